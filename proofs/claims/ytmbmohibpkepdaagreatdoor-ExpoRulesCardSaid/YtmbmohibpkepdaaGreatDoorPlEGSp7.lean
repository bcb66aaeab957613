/-
 Div of the code.
-/
import Derived.Deep.CutBlock
import Derived.Test.YtmbmohibpkepdaaGreatDoorPlEGDy5
import Derived.Test.YtmbmohibpkepdaaGreatDoorPlEGSp6
namespace Go.Proofs.YtmbmohibpkepdaaGreatDoor
open Go.RowKit
variable {TW:TypeId}
def overI (r s:DR) (p:Int) (up:Bool):DR:=overD (r.ok && s.ok && !decide (s.m=0) && bitsFitB p) r.neg s.neg r.m s.m r.e s.e p up
theorem doverI {r s:DR} {A B:Option Addr} {n c m d:Nat} (p:Int) (up:Bool) (w:World) (ha:DIn w A n c r) (hb:DIn w B m d s) (hT:Tab w) (hs:s.ok=true) :
 Calls Tryz.prog 152 #[dyv r.neg A n c r.e,dyv s.neg B m d s.e,.int .i64 p,.bool up] w (DP w (overI r s p up)):=by
 have h0:=hb.len0 hs
 obtain ⟨x,a1,a2,a3,a4⟩:=ha
 obtain ⟨y,b1,b2,b3,b4⟩:=hb
 have:=over_any r.neg s.neg A B n c m d x y r.e s.e p up w a1 b1 a2 b2 hT
 unfold overI
 rw [a4,b4,show decide (s.m=0)=decide (m=0) by simp only [h0],a3,b3]
 exact this.mono fun _ _ h=>h.dp
structure Pl (r:DR):Prop where
 ok:r.ok=true
 pl:plainV r.neg r.m r.e=true
theorem Pl.din {r:DR} {w:World} {A:Option Addr} {n c:Nat} (h:Pl r) (hn:Num w (.slice A n c) r.m):DIn w A n c r:=DIn.of_num hn h.pl h.ok
theorem pl_pick {b:Bool} {r s:DR} (h1:Pl r) (h2:Pl s):Pl (pickS b r s):=by unfold pickS;split <;> assumption
theorem pl_neg {r:DR} (h:Pl r):Pl (negI r):=by
 have hk:(negI r).ok=true:=by unfold negI;rw [h.ok];simp only [if_true];split <;> rfl
 exact ⟨hk,plIf_negI (fun _=>plainR_of h.pl) hk⟩
def quoC (p:Int) (alo ahi blo bhi:DR):SRes :=
 keepS false (overI alo (pickS alo.neg blo bhi) p false) (overI ahi (pickS ahi.neg bhi blo) p true) ((overI alo (pickS alo.neg blo bhi) p false).ok && (overI ahi (pickS ahi.neg bhi blo) p true).ok)
def divC (p:Int) (bad:Bool) (lo hi lo' hi':DR):SRes :=
 if bad2 p bad lo hi lo' hi' then SRes.no else if signI lo' hi'=0 then SRes.no else
  if signI lo' hi'=-1 then quoC p (negI hi) (negI lo) (negI hi') (negI lo') else quoC p lo hi lo' hi'
theorem signI_range (lo hi:DR):signI lo hi=-1∨signI lo hi=0∨signI lo hi=1:=by
 unfold signI signS
 repeat' split
 all_goals simp
theorem negS_ok {p:Int} {lo hi:DR} (hp1:1≤p) (hp2:p≤8192) (h1:RightF lo hi) (l:Pl lo) (h:Pl hi):negS p false lo hi=⟨false,negI hi,negI lo⟩:=by
 have hb:bad1 p false lo hi=false:=by
  unfold bad1 pBad rightI rightB
  rw [h1.l,h1.h]
  have:=h1.le
  simp [this]
  omega
 unfold negS twoS
 rw [hb]
 simp only [Bool.false_eq_true,if_false]
 unfold keepS
 rw [(pl_neg h).ok,(pl_neg l).ok]
 rfl
theorem st3_a {T:TypeId} {w wi:World} {g:Nat} {p:Int} {bad:Bool} {r b a:Nat} {R B:Array Value} {ns:List (Value×Nat)} {na nb':Bool} {X Y:Option Addr} {n c m d:Nat} {e f:Int}
 (S:St T w g p bad wi [(31,r,R),(31,b,B),(31,a,#[.bool na,.slice X n c,.int .i64 e,.bool nb',.slice Y m d,.int .i64 f])] ns) (ha:w.heap.size≤a) (h1:r≠a) (h2:b≠a) (x y z x' y' z':Value) :
 St T w g p bad (put6 wi a x y z x' y' z') [(31,r,R),(31,b,B),(31,a,#[x,y,z,x',y',z'])] ns:=by
 have o:=only_put6 wi a x y z x' y' z'
 have hg:=S.hg
 have ka:=S.ks.2.2.1.1
 have hn:∀ {ns:List (Value×Nat)},NS wi ns→NS (put6 wi a x y z x' y' z') ns:=by
  intro ns
  induction ns with
  | nil=>intro _;trivial
  | cons q t ih=>intro h;exact ⟨num_put6 h.1 ka.b6 _ _ _ _ _ _,ih h.2⟩
 exact ⟨hg,only_new S.O o ha,S.W.only o (by omega),⟨⟨S.ks.1.1.only o h1,S.ks.1.2⟩,⟨S.ks.2.1.1.only o h2,S.ks.2.1.2⟩,⟨ka.put6 _ _ _ _ _ _,S.ks.2.2.1.2⟩,trivial⟩,hn S.ns⟩
theorem st3_b {T:TypeId} {w wi:World} {g:Nat} {p:Int} {bad:Bool} {r b a:Nat} {R A:Array Value} {ns:List (Value×Nat)} {na nb':Bool} {X Y:Option Addr} {n c m d:Nat} {e f:Int}
 (S:St T w g p bad wi [(31,r,R),(31,b,#[.bool na,.slice X n c,.int .i64 e,.bool nb',.slice Y m d,.int .i64 f]),(31,a,A)] ns) (ha:w.heap.size≤b) (h1:r≠b) (h2:a≠b) (x y z x' y' z':Value) :
 St T w g p bad (put6 wi b x y z x' y' z') [(31,r,R),(31,b,#[x,y,z,x',y',z']),(31,a,A)] ns:=by
 have o:=only_put6 wi b x y z x' y' z'
 have hg:=S.hg
 have kb:=S.ks.2.1.1
 have hn:∀ {ns:List (Value×Nat)},NS wi ns→NS (put6 wi b x y z x' y' z') ns:=by
  intro ns
  induction ns with
  | nil=>intro _;trivial
  | cons q t ih=>intro h;exact ⟨num_put6 h.1 kb.b6 _ _ _ _ _ _,ih h.2⟩
 exact ⟨hg,only_new S.O o ha,S.W.only o (by omega),⟨⟨S.ks.1.1.only o h1,S.ks.1.2⟩,⟨kb.put6 _ _ _ _ _ _,S.ks.2.1.2⟩,⟨S.ks.2.2.1.1.only o h2,S.ks.2.2.1.2⟩,trivial⟩,hn S.ns⟩
set_option maxRecDepth 8000 in
set_option maxHeartbeats 4000000 in
theorem div_any {lo hi lo' hi':DR} {A B A' B':Option Addr} {n c m d n' c' m' d':Nat} (g:Nat) (p:Int) (bad:Bool) (w:World) (hW:Wk TW w g p bad) (ha:DIn w A n c lo) (hb:DIn w B m d hi) (ha':DIn w A' n' c' lo') (hb':DIn w B' m' d' hi') (hT:Tab w) :
 Calls Tryz.prog 91 #[.pointer (some ⟨g,0,none⟩),spv lo.neg A n c lo.e hi.neg B m d hi.e,spv lo'.neg A' n' c' lo'.e hi'.neg B' m' d' hi'.e] w (SPost TW w g p (divC p bad lo hi lo' hi')):=by
 have S:=st2 hW (.bool lo.neg) (.slice A n c) (.int .i64 lo.e) (.bool hi.neg) (.slice B m d) (.int .i64 hi.e) (.bool lo'.neg) (.slice A' n' c') (.int .i64 lo'.e) (.bool hi'.neg) (.slice B' m' d') (.int .i64 hi'.e)
 have TK:=take2 g p bad _ S.W (ha.wk hW S.O) (hb.wk hW S.O) (ha'.wk hW S.O) (hb'.wk hW S.O)
 rw [show (((w.alloc (co6 (.bool lo.neg) (.slice A n c) (.int .i64 lo.e) (.bool hi.neg) (.slice B m d) (.int .i64 hi.e))).alloc (co6 (.bool lo'.neg) (.slice A' n' c') (.int .i64 lo'.e) (.bool hi'.neg) (.slice B' m' d') (.int .i64 hi'.e))).alloc z6).heap.size=w.heap.size+1+1+1 by simp] at TK
 have TKH:=Lib.hid TK
 clear TK
 have k0:=S.ks.2.2.1.1
 have k0_0:=k0.at_ 0 _ rfl
 have k0_1:=k0.at_ 1 _ rfl
 have k0_2:=k0.at_ 2 _ rfl
 have k0_3:=k0.at_ 3 _ rfl
 have k0_4:=k0.at_ 4 _ rfl
 have k0_5:=k0.at_ 5 _ rfl
 have k0l:=k0.2
 clear k0
 have k1:=S.ks.2.1.1
 have k1_0:=k1.at_ 0 _ rfl
 have k1_1:=k1.at_ 1 _ rfl
 have k1_2:=k1.at_ 2 _ rfl
 have k1_3:=k1.at_ 3 _ rfl
 have k1_4:=k1.at_ 4 _ rfl
 have k1_5:=k1.at_ 5 _ rfl
 have k1l:=k1.2
 clear k1
 go_enter Tryz.func91,Tryz.ntmps91
 go_wp2_with fail
 refine TKH.out.mono ?_
 clear TKH
 clear k0_0 k0_1 k0_2 k0_3 k0_4 k0_5 k0l k1_0 k1_1 k1_2 k1_3 k1_4 k1_5 k1l
 generalize ((w.alloc (co6 (.bool lo.neg) (.slice A n c) (.int .i64 lo.e) (.bool hi.neg) (.slice B m d) (.int .i64 hi.e))).alloc (co6 (.bool lo'.neg) (.slice A' n' c') (.int .i64 lo'.e) (.bool hi'.neg) (.slice B' m' d') (.int .i64 hi'.e))).alloc z6=w1 at *
 rintro e' w2 ⟨rfl,hW2,o2⟩
 replace S:=S.only o2 hW2
 clear o2 hW2
 obtain ⟨bo,hbo⟩:∃ b:Bool,Hid (bad2 p bad lo hi lo' hi'=b):=⟨_,Lib.hid rfl⟩
 rw [hbo.out] at S
 rw [hbo.out]
 cases bo
 rotate_left
 · have HT:Hid (divC p bad lo hi lo' hi'=SRes.no):=Lib.hid (by unfold divC;rw [hbo.out];rfl)
   have kR:=S.ks.1.1
   have s0:=kR.at_ 0 _ rfl
   have s1:=kR.at_ 1 _ rfl
   have s2:=kR.at_ 2 _ rfl
   have s3:=kR.at_ 3 _ rfl
   have s4:=kR.at_ 4 _ rfl
   have s5:=kR.at_ 5 _ rfl
   have rf0:=kR.fr 0
   have rf1:=kR.fr 1
   have rf2:=kR.fr 2
   have rf3:=kR.fr 3
   have rf4:=kR.fr 4
   have rf5:=kR.fr 5
   go_wp2_with fail
   rw [HT.out]
   obtain ⟨q1,q2,q3,q4⟩:=S.give (lo:=DR.zero) (hi:=DR.zero) (num_nil _) (num_nil _) kR (by omega)
   exact bodyPost_ret (v:=spv false none 0 0 0 false none 0 0 0) (by simp [results,Tryz.results91,go_sem,s0,s1,s2,s3,s4,s5]) rfl ⟨none,0,0,none,0,0,rfl,q1,q2,q3,q4⟩
 · skip
   obtain ⟨hbad,hp,hR,hR'⟩:=bad2_false hbo.out
   have p1:Pl lo:=⟨hR.l,(ha.plain hR.l).pl⟩
   have p2:Pl hi:=⟨hR.h,(hb.plain hR.h).pl⟩
   have p3:Pl lo':=⟨hR'.l,(ha'.plain hR'.l).pl⟩
   have p4:Pl hi':=⟨hR'.h,(hb'.plain hR'.h).pl⟩
   have HTab:Hid (∀ w',Only w w' g→Tab w'):=Lib.hid (fun w' o=>hT.wk hW o)
   have SG:Hid (∀ w',Only w w' g→Calls Tryz.prog 61 #[spv lo'.neg A' n' c' lo'.e hi'.neg B' m' d' hi'.e] w' fun o w2=>o=.returned (.int .i64 (signI lo' hi'))∧Below w'.heap.size w' w2):=Lib.hid (fun w' o=>sign_I w' (ha'.wk hW o) (hb'.wk hW o))
   have HT0:Hid (divC p bad lo hi lo' hi'=if signI lo' hi'=0 then SRes.no else if signI lo' hi'=-1 then quoC p (negI hi) (negI lo) (negI hi') (negI lo') else quoC p lo hi lo' hi'):=Lib.hid (by unfold divC;rw [hbo.out];rfl)
   have hz:=signI_range lo' hi'
   generalize signI lo' hi'=z at *
   clear hbo hbad
   have k2:=S.ks.2.2.1.1
   have k2_0:=k2.at_ 0 _ rfl
   have k2_1:=k2.at_ 1 _ rfl
   have k2_2:=k2.at_ 2 _ rfl
   have k2_3:=k2.at_ 3 _ rfl
   have k2_4:=k2.at_ 4 _ rfl
   have k2_5:=k2.at_ 5 _ rfl
   have k2l:=k2.2
   clear k2
   have k3:=S.ks.2.1.1
   have k3_0:=k3.at_ 0 _ rfl
   have k3_1:=k3.at_ 1 _ rfl
   have k3_2:=k3.at_ 2 _ rfl
   have k3_3:=k3.at_ 3 _ rfl
   have k3_4:=k3.at_ 4 _ rfl
   have k3_5:=k3.at_ 5 _ rfl
   have k3l:=k3.2
   clear k3
   go_wp2_with fail
   refine (SG.out _ S.O).mono ?_
   rintro e' w3 ⟨rfl,b3⟩
   replace S:=S.below b3
   clear b3 SG
   clear k2_0 k2_1 k2_2 k2_3 k2_4 k2_5 k2l k3_0 k3_1 k3_2 k3_3 k3_4 k3_5 k3l
   by_cases hz0:z=0
   · subst hz0
     have HT:=Lib.hid (HT0.out.trans (if_pos rfl))
     clear HT0 hz
     have k4:=S.ks.2.2.1.1
     have k4_0:=k4.at_ 0 _ rfl
     have k4_1:=k4.at_ 1 _ rfl
     have k4_2:=k4.at_ 2 _ rfl
     have k4_3:=k4.at_ 3 _ rfl
     have k4_4:=k4.at_ 4 _ rfl
     have k4_5:=k4.at_ 5 _ rfl
     have k4l:=k4.2
     clear k4
     go_wp2_with fail
     refine (fail_any g p false w3 S.W).mono ?_
     rintro e' w4 ⟨rfl,hW4,o4⟩
     replace S:=S.only o4 hW4
     clear o4 hW4
     clear k4_0 k4_1 k4_2 k4_3 k4_4 k4_5 k4l
     have kR:=S.ks.1.1
     have s0:=kR.at_ 0 _ rfl
     have s1:=kR.at_ 1 _ rfl
     have s2:=kR.at_ 2 _ rfl
     have s3:=kR.at_ 3 _ rfl
     have s4:=kR.at_ 4 _ rfl
     have s5:=kR.at_ 5 _ rfl
     have rf0:=kR.fr 0
     have rf1:=kR.fr 1
     have rf2:=kR.fr 2
     have rf3:=kR.fr 3
     have rf4:=kR.fr 4
     have rf5:=kR.fr 5
     go_wp2_with fail
     rw [HT.out]
     obtain ⟨q1,q2,q3,q4⟩:=S.give (lo:=DR.zero) (hi:=DR.zero) (num_nil _) (num_nil _) kR (by omega)
     exact bodyPost_ret (v:=spv false none 0 0 0 false none 0 0 0) (by simp [results,Tryz.results91,go_sem,s0,s1,s2,s3,s4,s5]) rfl ⟨none,0,0,none,0,0,rfl,q1,q2,q3,q4⟩
   have HT1:=Lib.hid (HT0.out.trans (if_neg hz0))
   clear HT0
   have hzb:(z == 0)=false:=by simpa using hz0
   go_upto_block 0 with fail
   go_cut [] (fun wx=>∃ q1 q2 q3 q4 X1 x1 y1 X2 x2 y2 X3 x3 y3 X4 x4 y4,Pl q1∧Pl q2∧Pl q3∧Pl q4∧Hid (divC p bad lo hi lo' hi'=quoC p q1 q2 q3 q4)∧St TW w g p false wx [(31,w.heap.size+1+1,zs),(31,w.heap.size+1,#[.bool q3.neg,.slice X3 x3 y3,.int .i64 q3.e,.bool q4.neg,.slice X4 x4 y4,.int .i64 q4.e]),(31,w.heap.size,#[.bool q1.neg,.slice X1 x1 y1,.int .i64 q1.e,.bool q2.neg,.slice X2 x2 y2,.int .i64 q2.e])] [(.slice X1 x1 y1,q1.m),(.slice X2 x2 y2,q2.m),(.slice X3 x3 y3,q3.m),(.slice X4 x4 y4,q4.m)])
   case first =>
    by_cases hz1:z=-1
    · subst hz1
      obtain ⟨q1,hq1⟩:∃ q,negI hi=q:=⟨_,rfl⟩
      obtain ⟨q2,hq2⟩:∃ q,negI lo=q:=⟨_,rfl⟩
      obtain ⟨q3,hq3⟩:∃ q,negI hi'=q:=⟨_,rfl⟩
      obtain ⟨q4,hq4⟩:∃ q,negI lo'=q:=⟨_,rfl⟩
      have HT2:=HT1.out.trans (if_pos rfl)
      rw [hq1,hq2,hq3,hq4] at HT2
      have HT:=Lib.hid HT2
      have Q1:Pl q1:=hq1 ▸ pl_neg p2
      have Q2:Pl q2:=hq2 ▸ pl_neg p1
      have Q3:Pl q3:=hq3 ▸ pl_neg p4
      have Q4:Pl q4:=hq4 ▸ pl_neg p3
      clear HT1 HT2 hz hz0 hzb
      have N1:Hid (∀ w',Wk TW w' g p false→Only w w' g→Calls Tryz.prog 69 #[.pointer (some ⟨g,0,none⟩),spv lo.neg A n c lo.e hi.neg B m d hi.e] w' (SPost TW w' g p ⟨false,q1,q2⟩)):=Lib.hid (fun w' k o=>by
       have:=neg_I g p false w' k (ha.wk hW o) (hb.wk hW o) (hT.wk hW o)
       rw [negS_ok hp.1 hp.2 hR p1 p2,hq1,hq2] at this
       exact this)
      have N2:Hid (∀ w',Wk TW w' g p false→Only w w' g→Calls Tryz.prog 69 #[.pointer (some ⟨g,0,none⟩),spv lo'.neg A' n' c' lo'.e hi'.neg B' m' d' hi'.e] w' (SPost TW w' g p ⟨false,q3,q4⟩)):=Lib.hid (fun w' k o=>by
       have:=neg_I g p false w' k (ha'.wk hW o) (hb'.wk hW o) (hT.wk hW o)
       rw [negS_ok hp.1 hp.2 hR' p3 p4,hq3,hq4] at this
       exact this)
      clear hq1 hq2 hq3 hq4
      go_upto_region 8 with fail
      have SD:=S.drew
      have hzz:w.heap.size≤w3.heap.size:=S.size
      clear S
      have ia0:=SD.ks.2.2.1.1.at_ 0 _ rfl
      have ia1:=SD.ks.2.2.1.1.at_ 1 _ rfl
      have ia2:=SD.ks.2.2.1.1.at_ 2 _ rfl
      have ia3:=SD.ks.2.2.1.1.at_ 3 _ rfl
      have ia4:=SD.ks.2.2.1.1.at_ 4 _ rfl
      have ia5:=SD.ks.2.2.1.1.at_ 5 _ rfl
      have ib0:=SD.ks.2.1.1.at_ 0 _ rfl
      have ib1:=SD.ks.2.1.1.at_ 1 _ rfl
      have ib2:=SD.ks.2.1.1.at_ 2 _ rfl
      have ib3:=SD.ks.2.1.1.at_ 3 _ rfl
      have ib4:=SD.ks.2.1.1.at_ 4 _ rfl
      have ib5:=SD.ks.2.1.1.at_ 5 _ rfl
      go_region_with (first
       | (go_at_call_of 69 (Value.agg #[Value.bool lo.neg,Value.slice A n c,Value.int .i64 lo.e,Value.bool hi.neg,Value.slice B m d,Value.int .i64 hi.e]);refine (N1.out _ SD.W SD.O).mono ?_;rintro e' v1 ⟨X1,x1,y1,X2,x2,y2,rfl,m1,m2,hW1,o1⟩;have S1:=SD.only o1 hW1;have ja0:=S1.ks.2.2.1.1.at_ 0 _ rfl;have ja1:=S1.ks.2.2.1.1.at_ 1 _ rfl;have ja2:=S1.ks.2.2.1.1.at_ 2 _ rfl;have ja3:=S1.ks.2.2.1.1.at_ 3 _ rfl;have ja4:=S1.ks.2.2.1.1.at_ 4 _ rfl;have ja5:=S1.ks.2.2.1.1.at_ 5 _ rfl;have jb0:=S1.ks.2.1.1.at_ 0 _ rfl;have jb1:=S1.ks.2.1.1.at_ 1 _ rfl;have jb2:=S1.ks.2.1.1.at_ 2 _ rfl;have jb3:=S1.ks.2.1.1.at_ 3 _ rfl;have jb4:=S1.ks.2.1.1.at_ 4 _ rfl;have jb5:=S1.ks.2.1.1.at_ 5 _ rfl)
       | (go_at_call_of 69 (Value.agg #[Value.bool lo'.neg,Value.slice A' n' c',Value.int .i64 lo'.e,Value.bool hi'.neg,Value.slice B' m' d',Value.int .i64 hi'.e]);refine (N2.out _ S1.W S1.O).mono ?_;rintro e' v2 ⟨X3,x3,y3,X4,x4,y4,rfl,m3,m4,hW2,o2⟩;have S2:=((((S1.only o2 hW2).num m4).num m3).num (num_wk S1.W o2 m2)).num (num_wk S1.W o2 m1);have ra0:=S2.ks.2.2.1.1.at_ 0 _ rfl;have ra1:=S2.ks.2.2.1.1.at_ 1 _ rfl;have ra2:=S2.ks.2.2.1.1.at_ 2 _ rfl;have ra3:=S2.ks.2.2.1.1.at_ 3 _ rfl;have ra4:=S2.ks.2.2.1.1.at_ 4 _ rfl;have ra5:=S2.ks.2.2.1.1.at_ 5 _ rfl;have rb0:=S2.ks.2.1.1.at_ 0 _ rfl;have rb1:=S2.ks.2.1.1.at_ 1 _ rfl;have rb2:=S2.ks.2.1.1.at_ 2 _ rfl;have rb3:=S2.ks.2.1.1.at_ 3 _ rfl;have rb4:=S2.ks.2.1.1.at_ 4 _ rfl;have rb5:=S2.ks.2.1.1.at_ 5 _ rfl;have fa0:=S2.ks.2.2.1.1.fr 0;have fa1:=S2.ks.2.2.1.1.fr 1;have fa2:=S2.ks.2.2.1.1.fr 2;have fa3:=S2.ks.2.2.1.1.fr 3;have fa4:=S2.ks.2.2.1.1.fr 4;have fa5:=S2.ks.2.2.1.1.fr 5;have fb0:=S2.ks.2.1.1.fr 0;have fb1:=S2.ks.2.1.1.fr 1;have fb2:=S2.ks.2.1.1.fr 2;have fb3:=S2.ks.2.1.1.fr 3;have fb4:=S2.ks.2.1.1.fr 4;have fb5:=S2.ks.2.1.1.fr 5))
      all_goals (
       go_wp2_with fail
       go_meet
       exact ⟨q1,q2,q3,q4,X1,x1,y1,X2,x2,y2,X3,x3,y3,X4,x4,y4,Q1,Q2,Q3,Q4,HT,st3_b (st3_a S2 (by omega) (by omega) (by omega) _ _ _ _ _ _) (by omega) (by omega) (by omega) _ _ _ _ _ _⟩)
    · skip
      have hz2:z=1:=by omega
      subst hz2
      have HT:=Lib.hid (HT1.out.trans (if_neg (by decide)))
      clear HT1
      go_wp2_with fail
      go_meet
      exact ⟨lo,hi,lo',hi',A,n,c,B,m,d,A',n',c',B',m',d',p1,p2,p3,p4,HT,(((S.num ((hb'.wk hW S.O).num hR'.h)).num ((ha'.wk hW S.O).num hR'.l)).num ((hb.wk hW S.O).num hR.h)).num ((ha.wk hW S.O).num hR.l)⟩
   case rest =>
    clear S
    obtain ⟨q1,q2,q3,q4,X1,x1,y1,X2,x2,y2,X3,x3,y3,X4,x4,y4,Q1,Q2,Q3,Q4,HT,S⟩:=hcut
    clear HT1 hz hz0 hzb p1 p2 p3 p4 hR hR'
    unfold quoC at HT
    have hz:=S.size
    go_upto_region 9 with fail
    go_cut [7,8] (fun s7 s8 wx=>∃ g7 g8,s7=.pointer (some ⟨g7,0,none⟩)∧s8=.pointer (some ⟨g8,0,none⟩)∧g7≠g8∧w.heap.size+2 < g7∧w.heap.size+2 < g8∧St TW w g p false wx [(24,g7,#[.bool q4.neg,.slice X4 x4 y4,.int .i64 q4.e]),(24,g8,#[.bool q3.neg,.slice X3 x3 y3,.int .i64 q3.e]),(31,w.heap.size+1+1,zs),(31,w.heap.size+1,#[.bool q3.neg,.slice X3 x3 y3,.int .i64 q3.e,.bool q4.neg,.slice X4 x4 y4,.int .i64 q4.e]),(31,w.heap.size,#[.bool q1.neg,.slice X1 x1 y1,.int .i64 q1.e,.bool q2.neg,.slice X2 x2 y2,.int .i64 q2.e])] [(.slice X1 x1 y1,q1.m),(.slice X2 x2 y2,q2.m),(.slice X3 x3 y3,q3.m),(.slice X4 x4 y4,q4.m)])
    case first =>
     have hzr:w.heap.size+2 < wc.heap.size:=S.ks.1.1.2
     have EA:=(S.alloc 24 #[.bool q3.neg,.slice X3 x3 y3,.int .i64 q3.e]).alloc 24 #[.bool q4.neg,.slice X4 x4 y4,.int .i64 q4.e]
     have EB0:=(S.alloc 24 #[.bool q4.neg,.slice X4 x4 y4,.int .i64 q4.e]).alloc 24 #[.bool q3.neg,.slice X3 x3 y3,.int .i64 q3.e]
     have EB:St TW w g p false ((wc.alloc (.cells #[.bool q4.neg,.slice X4 x4 y4,.int .i64 q4.e] 24)).alloc (.cells #[.bool q3.neg,.slice X3 x3 y3,.int .i64 q3.e] 24)) ((24,wc.heap.size,#[.bool q4.neg,.slice X4 x4 y4,.int .i64 q4.e]) :: (24,(wc.alloc (.cells #[.bool q4.neg,.slice X4 x4 y4,.int .i64 q4.e] 24)).heap.size,#[.bool q3.neg,.slice X3 x3 y3,.int .i64 q3.e]) :: [(31,w.heap.size+1+1,zs),(31,w.heap.size+1,#[.bool q3.neg,.slice X3 x3 y3,.int .i64 q3.e,.bool q4.neg,.slice X4 x4 y4,.int .i64 q4.e]),(31,w.heap.size,#[.bool q1.neg,.slice X1 x1 y1,.int .i64 q1.e,.bool q2.neg,.slice X2 x2 y2,.int .i64 q2.e])]) [(.slice X1 x1 y1,q1.m),(.slice X2 x2 y2,q2.m),(.slice X3 x3 y3,q3.m),(.slice X4 x4 y4,q4.m)] :=
      ⟨EB0.hg,EB0.O,EB0.W,⟨EB0.ks.2.1,EB0.ks.1,EB0.ks.2.2⟩,EB0.ns⟩
     have ED:=EA.drew
     have EF:=EB.drew
     have sA:(wc.alloc (.cells #[.bool q3.neg,.slice X3 x3 y3,.int .i64 q3.e] 24)).heap.size=wc.heap.size+1:=by simp
     have sB:(wc.alloc (.cells #[.bool q4.neg,.slice X4 x4 y4,.int .i64 q4.e] 24)).heap.size=wc.heap.size+1:=by simp
     rw [sA] at ED
     rw [sB] at EF
     clear EA EB EB0 sA sB
     have i0:=S.ks.2.1.1.at_ 0 _ rfl
     have i1:=S.ks.2.1.1.at_ 1 _ rfl
     have i2:=S.ks.2.1.1.at_ 2 _ rfl
     have i3:=S.ks.2.1.1.at_ 3 _ rfl
     have i4:=S.ks.2.1.1.at_ 4 _ rfl
     have i5:=S.ks.2.1.1.at_ 5 _ rfl
     clear S
     go_region_held3 (fun w'=>w'.cell? ⟨w.heap.size+1,0,none⟩=some (.bool q3.neg)∧w'.cell? ⟨w.heap.size+1,1,none⟩=some (.slice X3 x3 y3)∧w'.cell? ⟨w.heap.size+1,2,none⟩=some (.int .i64 q3.e)∧w'.cell? ⟨w.heap.size+1,3,none⟩=some (.bool q4.neg)∧w'.cell? ⟨w.heap.size+1,4,none⟩=some (.slice X4 x4 y4)∧w'.cell? ⟨w.heap.size+1,5,none⟩=some (.int .i64 q4.e)) (go_keep) (fail)
     all_goals (
      go_wp2_with fail
      go_meet
      first
       | exact ⟨_,_,rfl,rfl,by omega,by omega,by omega,ED⟩
       | exact ⟨_,_,rfl,rfl,by omega,by omega,by omega,EF⟩)
    case rest =>
     clear S hz
     obtain ⟨g7,g8,rfl,rfl,h78,h7,h8,S⟩:=hcut
     have k5:=S.ks.2.2.2.2.1.1
     have k5_0:=k5.at_ 0 _ rfl
     have k5_1:=k5.at_ 1 _ rfl
     have k5_2:=k5.at_ 2 _ rfl
     have k5_3:=k5.at_ 3 _ rfl
     have k5_4:=k5.at_ 4 _ rfl
     have k5_5:=k5.at_ 5 _ rfl
     have k5l:=k5.2
     clear k5
     go_upto_if 41 with fail
     clear k5_0 k5_1 k5_2 k5_3 k5_4 k5_5 k5l
     go_cut [] (fun wx=>∃ Y Y1 Y2,St TW w g p false wx [(24,g7,#[.bool (pickS q1.neg q3 q4).neg,.slice Y Y1 Y2,.int .i64 (pickS q1.neg q3 q4).e]),(24,g8,#[.bool q3.neg,.slice X3 x3 y3,.int .i64 q3.e]),(31,w.heap.size+1+1,zs),(31,w.heap.size+1,#[.bool q3.neg,.slice X3 x3 y3,.int .i64 q3.e,.bool q4.neg,.slice X4 x4 y4,.int .i64 q4.e]),(31,w.heap.size,#[.bool q1.neg,.slice X1 x1 y1,.int .i64 q1.e,.bool q2.neg,.slice X2 x2 y2,.int .i64 q2.e])] [(.slice Y Y1 Y2,(pickS q1.neg q3 q4).m),(.slice X1 x1 y1,q1.m),(.slice X2 x2 y2,q2.m),(.slice X3 x3 y3,q3.m),(.slice X4 x4 y4,q4.m)])
     case first =>
      cases hcn:q1.neg
      · skip
        go_wp2_with fail
        go_meet
        rw [show (pickS q1.neg q3 q4)=q4 by unfold pickS;rw [hcn];rfl]
        exact ⟨_,_,_,S.num S.ns.2.2.2.1⟩
      · skip
        have k6:=S.ks.2.2.2.1.1
        have k6_0:=k6.at_ 0 _ rfl
        have k6_1:=k6.at_ 1 _ rfl
        have k6_2:=k6.at_ 2 _ rfl
        have k6_3:=k6.at_ 3 _ rfl
        have k6_4:=k6.at_ 4 _ rfl
        have k6_5:=k6.at_ 5 _ rfl
        have k6l:=k6.2
        clear k6
        have k7:=S.ks.1.1
        have k7_0:=k7.at_ 0 _ rfl
        have k7_1:=k7.at_ 1 _ rfl
        have k7_2:=k7.at_ 2 _ rfl
        have k7f0:=k7.fr 0
        have k7f1:=k7.fr 1
        have k7f2:=k7.fr 2
        have k7l:=k7.2
        clear k7
        go_wp2_with fail
        go_meet
        have SR:St TW w g p false wc [(24,g8,#[.bool q3.neg,.slice X3 x3 y3,.int .i64 q3.e]),(31,w.heap.size+1+1,zs),(31,w.heap.size+1,#[.bool q3.neg,.slice X3 x3 y3,.int .i64 q3.e,.bool q4.neg,.slice X4 x4 y4,.int .i64 q4.e]),(31,w.heap.size,#[.bool q1.neg,.slice X1 x1 y1,.int .i64 q1.e,.bool q2.neg,.slice X2 x2 y2,.int .i64 q2.e])] [(.slice X1 x1 y1,q1.m),(.slice X2 x2 y2,q2.m),(.slice X3 x3 y3,q3.m),(.slice X4 x4 y4,q4.m)]:=⟨S.hg,S.O,S.W,⟨S.ks.2.1,S.ks.2.2.1,S.ks.2.2.2.1,S.ks.2.2.2.2.1,trivial⟩,S.ns⟩
        have SP:=(SR.num S.ns.2.2.1).putK S.ks.1.1 (by omega) ⟨by omega,by omega,by omega,by omega,trivial⟩ (.bool q3.neg) (.slice X3 x3 y3) (.int .i64 q3.e)
        rw [show (pickS q1.neg q3 q4)=q3 by unfold pickS;rw [hcn];rfl]
        exact ⟨_,_,_,⟨SP.hg,SP.O,SP.W,⟨SP.ks.1,SP.ks.2.1,SP.ks.2.2.1,SP.ks.2.2.2.1,SP.ks.2.2.2.2.1,trivial⟩,SP.ns⟩⟩
     case rest =>
      clear S
      obtain ⟨Y,Y1,Y2,S⟩:=hcut
      have k8:=S.ks.2.2.2.2.1.1
      have k8_0:=k8.at_ 0 _ rfl
      have k8_1:=k8.at_ 1 _ rfl
      have k8_2:=k8.at_ 2 _ rfl
      have k8_3:=k8.at_ 3 _ rfl
      have k8_4:=k8.at_ 4 _ rfl
      have k8_5:=k8.at_ 5 _ rfl
      have k8l:=k8.2
      clear k8
      go_upto_if 46 with fail
      clear k8_0 k8_1 k8_2 k8_3 k8_4 k8_5 k8l
      go_cut [] (fun wx=>∃ Z Z1 Z2,St TW w g p false wx [(24,g7,#[.bool (pickS q1.neg q3 q4).neg,.slice Y Y1 Y2,.int .i64 (pickS q1.neg q3 q4).e]),(24,g8,#[.bool (pickS q2.neg q4 q3).neg,.slice Z Z1 Z2,.int .i64 (pickS q2.neg q4 q3).e]),(31,w.heap.size+1+1,zs),(31,w.heap.size+1,#[.bool q3.neg,.slice X3 x3 y3,.int .i64 q3.e,.bool q4.neg,.slice X4 x4 y4,.int .i64 q4.e]),(31,w.heap.size,#[.bool q1.neg,.slice X1 x1 y1,.int .i64 q1.e,.bool q2.neg,.slice X2 x2 y2,.int .i64 q2.e])] [(.slice Z Z1 Z2,(pickS q2.neg q4 q3).m),(.slice Y Y1 Y2,(pickS q1.neg q3 q4).m),(.slice X1 x1 y1,q1.m),(.slice X2 x2 y2,q2.m),(.slice X3 x3 y3,q3.m),(.slice X4 x4 y4,q4.m)])
      case first =>
       cases hcn:q2.neg
       · skip
         go_wp2_with fail
         go_meet
         rw [show (pickS q2.neg q4 q3)=q3 by unfold pickS;rw [hcn];rfl]
         exact ⟨_,_,_,S.num S.ns.2.2.2.1⟩
       · skip
         have k9:=S.ks.2.2.2.1.1
         have k9_0:=k9.at_ 0 _ rfl
         have k9_1:=k9.at_ 1 _ rfl
         have k9_2:=k9.at_ 2 _ rfl
         have k9_3:=k9.at_ 3 _ rfl
         have k9_4:=k9.at_ 4 _ rfl
         have k9_5:=k9.at_ 5 _ rfl
         have k9l:=k9.2
         clear k9
         have k10:=S.ks.2.1.1
         have k10_0:=k10.at_ 0 _ rfl
         have k10_1:=k10.at_ 1 _ rfl
         have k10_2:=k10.at_ 2 _ rfl
         have k10f0:=k10.fr 0
         have k10f1:=k10.fr 1
         have k10f2:=k10.fr 2
         have k10l:=k10.2
         clear k10
         go_wp2_with fail
         go_meet
         have SR:St TW w g p false wc [(24,g7,#[.bool (pickS q1.neg q3 q4).neg,.slice Y Y1 Y2,.int .i64 (pickS q1.neg q3 q4).e]),(31,w.heap.size+1+1,zs),(31,w.heap.size+1,#[.bool q3.neg,.slice X3 x3 y3,.int .i64 q3.e,.bool q4.neg,.slice X4 x4 y4,.int .i64 q4.e]),(31,w.heap.size,#[.bool q1.neg,.slice X1 x1 y1,.int .i64 q1.e,.bool q2.neg,.slice X2 x2 y2,.int .i64 q2.e])] [(.slice Y Y1 Y2,(pickS q1.neg q3 q4).m),(.slice X1 x1 y1,q1.m),(.slice X2 x2 y2,q2.m),(.slice X3 x3 y3,q3.m),(.slice X4 x4 y4,q4.m)]:=⟨S.hg,S.O,S.W,⟨S.ks.1,S.ks.2.2.1,S.ks.2.2.2.1,S.ks.2.2.2.2.1,trivial⟩,S.ns⟩
         have SP:=(SR.num S.ns.2.2.2.2.1).putK S.ks.2.1.1 (by omega) ⟨by omega,by omega,by omega,by omega,trivial⟩ (.bool q4.neg) (.slice X4 x4 y4) (.int .i64 q4.e)
         rw [show (pickS q2.neg q4 q3)=q4 by unfold pickS;rw [hcn];rfl]
         exact ⟨_,_,_,⟨SP.hg,SP.O,SP.W,⟨SP.ks.2.1,SP.ks.1,SP.ks.2.2.1,SP.ks.2.2.2.1,SP.ks.2.2.2.2.1,trivial⟩,SP.ns⟩⟩
      case rest =>
       clear S
       obtain ⟨Z,Z1,Z2,S⟩:=hcut
       obtain ⟨u,hu⟩:∃ u,pickS q1.neg q3 q4=u:=⟨_,rfl⟩
       obtain ⟨v,hv⟩:∃ v,pickS q2.neg q4 q3=v:=⟨_,rfl⟩
       have QU:Pl u:=hu ▸ pl_pick Q3 Q4
       have QV:Pl v:=hv ▸ pl_pick Q4 Q3
       rw [hu,hv] at HT
       rw [hu,hv] at S
       clear hu hv
       have D1:Hid (∀ w',Only w w' g→Num w' (.slice X1 x1 y1) q1.m→Num w' (.slice Y Y1 Y2) u.m→Calls Tryz.prog 152 #[dyv q1.neg X1 x1 y1 q1.e,dyv u.neg Y Y1 Y2 u.e,.int .i64 p,.bool false] w' (DP w' (overI q1 u p false))):=Lib.hid (fun w' o h1 h2=>doverI p false w' (Q1.din h1) (QU.din h2) (HTab.out w' o) QU.ok)
       have D2:Hid (∀ w',Only w w' g→Num w' (.slice X2 x2 y2) q2.m→Num w' (.slice Z Z1 Z2) v.m→Calls Tryz.prog 152 #[dyv q2.neg X2 x2 y2 q2.e,dyv v.neg Z Z1 Z2 v.e,.int .i64 p,.bool true] w' (DP w' (overI q2 v p true))):=Lib.hid (fun w' o h1 h2=>doverI p true w' (Q2.din h1) (QV.din h2) (HTab.out w' o) QV.ok)
       generalize overI q1 u p false=r1 at *
       generalize overI q2 v p true=r2 at *
       go_upto_region 14 with fail
       go_cut [9,10] (fun sd so wx=>∃ g11 A11 n11 c11,sd=.pointer (some ⟨g11,0,none⟩)∧so=.bool r1.ok∧w.heap.size≤g11∧St TW w g p false wx [(24,g11,#[.bool r1.neg,.slice A11 n11 c11,.int .i64 r1.e]),(24,g7,#[.bool u.neg,.slice Y Y1 Y2,.int .i64 u.e]),(24,g8,#[.bool v.neg,.slice Z Z1 Z2,.int .i64 v.e]),(31,w.heap.size+1+1,zs),(31,w.heap.size+1,#[.bool q3.neg,.slice X3 x3 y3,.int .i64 q3.e,.bool q4.neg,.slice X4 x4 y4,.int .i64 q4.e]),(31,w.heap.size,#[.bool q1.neg,.slice X1 x1 y1,.int .i64 q1.e,.bool q2.neg,.slice X2 x2 y2,.int .i64 q2.e])] [(.slice A11 n11 c11,r1.m),(.slice Z Z1 Z2,v.m),(.slice Y Y1 Y2,u.m),(.slice X1 x1 y1,q1.m),(.slice X2 x2 y2,q2.m),(.slice X3 x3 y3,q3.m),(.slice X4 x4 y4,q4.m)])
       case first =>
        have HC:Hid (∀ w',St TW w g p false w' [(24,g7,#[.bool u.neg,.slice Y Y1 Y2,.int .i64 u.e]),(24,g8,#[.bool v.neg,.slice Z Z1 Z2,.int .i64 v.e]),(31,w.heap.size+1+1,zs),(31,w.heap.size+1,#[.bool q3.neg,.slice X3 x3 y3,.int .i64 q3.e,.bool q4.neg,.slice X4 x4 y4,.int .i64 q4.e]),(31,w.heap.size,#[.bool q1.neg,.slice X1 x1 y1,.int .i64 q1.e,.bool q2.neg,.slice X2 x2 y2,.int .i64 q2.e])] [(.slice Z Z1 Z2,v.m),(.slice Y Y1 Y2,u.m),(.slice X1 x1 y1,q1.m),(.slice X2 x2 y2,q2.m),(.slice X3 x3 y3,q3.m),(.slice X4 x4 y4,q4.m)]→w'.cell? ⟨w.heap.size,0,none⟩=some (.bool q1.neg)∧w'.cell? ⟨w.heap.size,1,none⟩=some (.slice X1 x1 y1)∧w'.cell? ⟨w.heap.size,2,none⟩=some (.int .i64 q1.e)∧w'.cell? ⟨g7,0,none⟩=some (.bool u.neg)∧w'.cell? ⟨g7,1,none⟩=some (.slice Y Y1 Y2)∧w'.cell? ⟨g7,2,none⟩=some (.int .i64 u.e)∧w'.cell? ⟨g,0,none⟩=some (.int .i64 p)):=Lib.hid (fun w' h=>⟨h.ks.2.2.2.2.1.1.at_ 0 _ rfl,h.ks.2.2.2.2.1.1.at_ 1 _ rfl,h.ks.2.2.2.2.1.1.at_ 2 _ rfl,h.ks.1.1.at_ 0 _ rfl,h.ks.1.1.at_ 1 _ rfl,h.ks.1.1.at_ 2 _ rfl,h.wc.1⟩)
        have hz0:=S.ks.1.1.2
        have hz1:=S.ks.2.1.1.2
        have hz2:=S.ks.2.2.1.1.2
        have hz3:=S.ks.2.2.2.1.1.2
        have hz4:=S.ks.2.2.2.2.1.1.2
        have hz:w.heap.size≤wc.heap.size:=S.size
        have SD:=S.drew
        have SA:=SD.below (alloc_bel wc.drew (cd3 (.bool false) (.slice none 0 0) (.int .i64 0)))
        have XS1:=HC.out _ SD
        clear S
        go_region_held3 (fun w'=>w'.cell? ⟨w.heap.size,0,none⟩=some (.bool q1.neg)∧w'.cell? ⟨w.heap.size,1,none⟩=some (.slice X1 x1 y1)∧w'.cell? ⟨w.heap.size,2,none⟩=some (.int .i64 q1.e)∧w'.cell? ⟨g7,0,none⟩=some (.bool u.neg)∧w'.cell? ⟨g7,1,none⟩=some (.slice Y Y1 Y2)∧w'.cell? ⟨g7,2,none⟩=some (.int .i64 u.e)∧w'.cell? ⟨g,0,none⟩=some (.int .i64 p))
         (first | exact XS1 | exact HC.out _ (SD.below b1) | exact HC.out _ SA | exact HC.out _ (SA.below b1) | exact HC.out _ ((SD.below b1).below (alloc_bel _ _)) | exact HC.out _ ((SA.below b1).put KZ1.kc hz ⟨by omega,by omega,by omega,by omega,by omega,trivial⟩ _ _ _))
         (first | (go_at_call 152;refine (D1.out _ (by first | exact SD.O | exact SA.O) (by first | exact SD.ns.2.2.1 | exact SA.ns.2.2.1) (by first | exact SD.ns.2.1 | exact SA.ns.2.1)).mono ?_;rintro e' v1 ⟨A1,p1,c1,rfl,n1,b1⟩;first | (have KZ1:K3 v1 wc.heap.size (.bool false) (.slice none 0 0) (.int .i64 0):=(K3.made wc.drew (.bool false) (.slice none 0 0) (.int .i64 0)).adv b1;obtain ⟨kf0,kf1,kf2⟩:=KZ1.frozen;obtain ⟨kc0,kc1,kc2,kc3⟩:=KZ1.cell) | skip))
        all_goals (go_wp2_with fail;go_meet;first | exact ⟨_,_,_,_,rfl,rfl,Nat.le_trans hz b1.size,((SD.below b1).num n1).alloc _ _⟩ | exact ⟨_,_,_,_,rfl,rfl,hz,((SA.below b1).num n1).putK KZ1.kc hz ⟨by omega,by omega,by omega,by omega,by omega,trivial⟩ _ _ _⟩)
       case rest =>
        clear S
        obtain ⟨g11,A11,n11,c11,rfl,rfl,hg11,S⟩:=hcut
        go_upto_region 15 with fail
        go_cut [11,12] (fun sd so wx=>∃ g12 A12 n12 c12,sd=.pointer (some ⟨g12,0,none⟩)∧so=.bool r2.ok∧w.heap.size≤g12∧St TW w g p false wx [(24,g12,#[.bool r2.neg,.slice A12 n12 c12,.int .i64 r2.e]),(24,g11,#[.bool r1.neg,.slice A11 n11 c11,.int .i64 r1.e]),(24,g7,#[.bool u.neg,.slice Y Y1 Y2,.int .i64 u.e]),(24,g8,#[.bool v.neg,.slice Z Z1 Z2,.int .i64 v.e]),(31,w.heap.size+1+1,zs),(31,w.heap.size+1,#[.bool q3.neg,.slice X3 x3 y3,.int .i64 q3.e,.bool q4.neg,.slice X4 x4 y4,.int .i64 q4.e]),(31,w.heap.size,#[.bool q1.neg,.slice X1 x1 y1,.int .i64 q1.e,.bool q2.neg,.slice X2 x2 y2,.int .i64 q2.e])] [(.slice A12 n12 c12,r2.m),(.slice A11 n11 c11,r1.m),(.slice Z Z1 Z2,v.m),(.slice Y Y1 Y2,u.m),(.slice X1 x1 y1,q1.m),(.slice X2 x2 y2,q2.m),(.slice X3 x3 y3,q3.m),(.slice X4 x4 y4,q4.m)])
        case first =>
         have HC:Hid (∀ w',St TW w g p false w' [(24,g11,#[.bool r1.neg,.slice A11 n11 c11,.int .i64 r1.e]),(24,g7,#[.bool u.neg,.slice Y Y1 Y2,.int .i64 u.e]),(24,g8,#[.bool v.neg,.slice Z Z1 Z2,.int .i64 v.e]),(31,w.heap.size+1+1,zs),(31,w.heap.size+1,#[.bool q3.neg,.slice X3 x3 y3,.int .i64 q3.e,.bool q4.neg,.slice X4 x4 y4,.int .i64 q4.e]),(31,w.heap.size,#[.bool q1.neg,.slice X1 x1 y1,.int .i64 q1.e,.bool q2.neg,.slice X2 x2 y2,.int .i64 q2.e])] [(.slice A11 n11 c11,r1.m),(.slice Z Z1 Z2,v.m),(.slice Y Y1 Y2,u.m),(.slice X1 x1 y1,q1.m),(.slice X2 x2 y2,q2.m),(.slice X3 x3 y3,q3.m),(.slice X4 x4 y4,q4.m)]→w'.cell? ⟨w.heap.size,3,none⟩=some (.bool q2.neg)∧w'.cell? ⟨w.heap.size,4,none⟩=some (.slice X2 x2 y2)∧w'.cell? ⟨w.heap.size,5,none⟩=some (.int .i64 q2.e)∧w'.cell? ⟨g8,0,none⟩=some (.bool v.neg)∧w'.cell? ⟨g8,1,none⟩=some (.slice Z Z1 Z2)∧w'.cell? ⟨g8,2,none⟩=some (.int .i64 v.e)∧w'.cell? ⟨g,0,none⟩=some (.int .i64 p)):=Lib.hid (fun w' h=>⟨h.ks.2.2.2.2.2.1.1.at_ 3 _ rfl,h.ks.2.2.2.2.2.1.1.at_ 4 _ rfl,h.ks.2.2.2.2.2.1.1.at_ 5 _ rfl,h.ks.2.2.1.1.at_ 0 _ rfl,h.ks.2.2.1.1.at_ 1 _ rfl,h.ks.2.2.1.1.at_ 2 _ rfl,h.wc.1⟩)
         have hz0:=S.ks.1.1.2
         have hz1:=S.ks.2.1.1.2
         have hz2:=S.ks.2.2.1.1.2
         have hz3:=S.ks.2.2.2.1.1.2
         have hz4:=S.ks.2.2.2.2.1.1.2
         have hz5:=S.ks.2.2.2.2.2.1.1.2
         have hz:w.heap.size≤wc.heap.size:=S.size
         have SD:=S.drew
         have SA:=SD.below (alloc_bel wc.drew (cd3 (.bool false) (.slice none 0 0) (.int .i64 0)))
         have XS1:=HC.out _ SD
         clear S
         go_region_held3 (fun w'=>w'.cell? ⟨w.heap.size,3,none⟩=some (.bool q2.neg)∧w'.cell? ⟨w.heap.size,4,none⟩=some (.slice X2 x2 y2)∧w'.cell? ⟨w.heap.size,5,none⟩=some (.int .i64 q2.e)∧w'.cell? ⟨g8,0,none⟩=some (.bool v.neg)∧w'.cell? ⟨g8,1,none⟩=some (.slice Z Z1 Z2)∧w'.cell? ⟨g8,2,none⟩=some (.int .i64 v.e)∧w'.cell? ⟨g,0,none⟩=some (.int .i64 p))
          (first | exact XS1 | exact HC.out _ (SD.below b1) | exact HC.out _ SA | exact HC.out _ (SA.below b1) | exact HC.out _ ((SD.below b1).below (alloc_bel _ _)) | exact HC.out _ ((SA.below b1).put KZ1.kc hz ⟨by omega,by omega,by omega,by omega,by omega,by omega,trivial⟩ _ _ _))
          (first | (go_at_call 152;refine (D2.out _ (by first | exact SD.O | exact SA.O) (by first | exact SD.ns.2.2.2.2.1 | exact SA.ns.2.2.2.2.1) (by first | exact SD.ns.2.1 | exact SA.ns.2.1)).mono ?_;rintro e' v1 ⟨A1,p1,c1,rfl,n1,b1⟩;first | (have KZ1:K3 v1 wc.heap.size (.bool false) (.slice none 0 0) (.int .i64 0):=(K3.made wc.drew (.bool false) (.slice none 0 0) (.int .i64 0)).adv b1;obtain ⟨kf0,kf1,kf2⟩:=KZ1.frozen;obtain ⟨kc0,kc1,kc2,kc3⟩:=KZ1.cell) | skip))
         all_goals (go_wp2_with fail;go_meet;first | exact ⟨_,_,_,_,rfl,rfl,Nat.le_trans hz b1.size,((SD.below b1).num n1).alloc _ _⟩ | exact ⟨_,_,_,_,rfl,rfl,hz,((SA.below b1).num n1).putK KZ1.kc hz ⟨by omega,by omega,by omega,by omega,by omega,by omega,trivial⟩ _ _ _⟩)
        case rest =>
         clear S
         obtain ⟨g12,A12,n12,c12,rfl,rfl,hg12,S⟩:=hcut
         have k13:=S.ks.2.1.1
         have k13_0:=k13.at_ 0 _ rfl
         have k13_1:=k13.at_ 1 _ rfl
         have k13_2:=k13.at_ 2 _ rfl
         have k13l:=k13.2
         clear k13
         have k14:=S.ks.1.1
         have k14_0:=k14.at_ 0 _ rfl
         have k14_1:=k14.at_ 1 _ rfl
         have k14_2:=k14.at_ 2 _ rfl
         have k14l:=k14.2
         clear k14
         cases hr1:r1.ok
         · skip
           rw [hr1] at HT
           first | rw [Bool.false_and] at HT | rw [Bool.true_and] at HT
           go_wp2_with fail
           refine (keep_any g p false r1 r2 A11 A12 n11 c11 n12 c12 (false) _ S.W S.ns.2.1 S.ns.1).mono ?_
           rintro e' w16 ⟨A9,p9,c9,B9,q9,d9,rfl,m1,m2,hW9,o9⟩
           replace S:=S.only o9 hW9
           clear o9 hW9
           clear k13_0 k13_1 k13_2 k13l k14_0 k14_1 k14_2 k14l
           generalize keepS false r1 r2 (false)=r at *
           have kR:=S.ks.2.2.2.2.1.1
           have s0:=kR.at_ 0 _ rfl
           have s1:=kR.at_ 1 _ rfl
           have s2:=kR.at_ 2 _ rfl
           have s3:=kR.at_ 3 _ rfl
           have s4:=kR.at_ 4 _ rfl
           have s5:=kR.at_ 5 _ rfl
           have rf0:=kR.fr 0
           have rf1:=kR.fr 1
           have rf2:=kR.fr 2
           have rf3:=kR.fr 3
           have rf4:=kR.fr 4
           have rf5:=kR.fr 5
           go_wp2_with fail
           rw [HT.out]
           obtain ⟨q1,q2,q3,q4⟩:=S.give (lo:=r.lo) (hi:=r.hi) m1 m2 kR (by omega)
           exact bodyPost_ret (v:=spv r.lo.neg A9 p9 c9 r.lo.e r.hi.neg B9 q9 d9 r.hi.e) (by simp [results,Tryz.results91,go_sem,s0,s1,s2,s3,s4,s5]) rfl ⟨A9,p9,c9,B9,q9,d9,rfl,q1,q2,q3,q4⟩
         · skip
           rw [hr1] at HT
           first | rw [Bool.false_and] at HT | rw [Bool.true_and] at HT
           go_wp2_with fail
           refine (keep_any g p false r1 r2 A11 A12 n11 c11 n12 c12 (r2.ok) _ S.W S.ns.2.1 S.ns.1).mono ?_
           rintro e' w17 ⟨A9,p9,c9,B9,q9,d9,rfl,m1,m2,hW9,o9⟩
           replace S:=S.only o9 hW9
           clear o9 hW9
           clear k13_0 k13_1 k13_2 k13l k14_0 k14_1 k14_2 k14l
           generalize keepS false r1 r2 (r2.ok)=r at *
           have kR:=S.ks.2.2.2.2.1.1
           have s0:=kR.at_ 0 _ rfl
           have s1:=kR.at_ 1 _ rfl
           have s2:=kR.at_ 2 _ rfl
           have s3:=kR.at_ 3 _ rfl
           have s4:=kR.at_ 4 _ rfl
           have s5:=kR.at_ 5 _ rfl
           have rf0:=kR.fr 0
           have rf1:=kR.fr 1
           have rf2:=kR.fr 2
           have rf3:=kR.fr 3
           have rf4:=kR.fr 4
           have rf5:=kR.fr 5
           go_wp2_with fail
           rw [HT.out]
           obtain ⟨q1,q2,q3,q4⟩:=S.give (lo:=r.lo) (hi:=r.hi) m1 m2 kR (by omega)
           exact bodyPost_ret (v:=spv r.lo.neg A9 p9 c9 r.lo.e r.hi.neg B9 q9 d9 r.hi.e) (by simp [results,Tryz.results91,go_sem,s0,s1,s2,s3,s4,s5]) rfl ⟨A9,p9,c9,B9,q9,d9,rfl,q1,q2,q3,q4⟩
end Go.Proofs.YtmbmohibpkepdaaGreatDoor
