import Derived.Deep.CutBlock
import Derived.Test.YtmbmohibpkepdaaGreatDoorPlSGSp6
set_option maxRecDepth 8000
set_option maxHeartbeats 4000000
open Go.Lib renaming hid->lY
open Go.Proofs.Tryz renaming prog->mF, results91->ou
open Go.Value renaming slice->oM, bool->oY, int->qK, agg->tz
namespace Go.Proofs.YtmbmohibpkepdaaGreatDoor
open Go.RowKit
variable {A:OA} {c d m n:Nat} {p:Int} {r:DR} {w:World}
section
variable {TW:TypeId}
def eS (r s:DR)(p:Int)(up:Bool):DR:=dX (r.ok && s.ok && !decide (s.m=0) && aJ p) r.neg s.neg r.m s.m r.e s.e p up
theorem nP (r s:DR)(p:Int)(up:Bool):kq (eS r s p up):=by
 unfold eS dX;cases (r.ok && s.ok && !decide (s.m=0) && aJ p)
 . exact mT
 . exact zo _ _ _ _ _ _
theorem Ab {s:DR}{B:OA}(p:Int)(up:Bool)(w:World)(ha:aC w A n c r)(hb:aC w B m d s)(hT:bx w)(hs:s.ok=true):
 Calls mF 152 #[aP r.neg A n c r.e,aP s.neg B m d s.e,.int .i64 p,.bool up] w (DP w (eS r s p up)):=by
 have h0:=hb.len0 hs;obtain⟨x,a1,a2,a3,a4⟩:=ha;obtain⟨y,b1,b2,b3,b4⟩:=hb
 have:=zp r.neg s.neg A B n c m d x y r.e s.e p up w a1 b1 a2 b2 hT
 unfold eS;rw[a4,b4,show decide (s.m=0)=decide (m=0) by simp only[h0],a3,b3]
 exact this.mono fun _ _ h=>h.dp
structure Pl (r:DR):Prop where
 ok:r.ok=true
 pl:aR r.neg r.m r.e=true
theorem Pl.din (h:Pl r)(hn:am w (.slice A n c) r.m):aC w A n c r:=aC.of_num hn h.pl h.ok
theorem vZ {b:Bool}{s:DR}(h1:Pl r)(h2:Pl s):Pl (aF b r s):=by unfold aF;split <;> assumption
theorem Ho (h:Pl r):Pl (aT r):=by
 have hk:(aT r).ok=true:=by unfold aT;rw[h.ok];simp only[if_true];split <;> rfl
 exact⟨hk,jF (fun _=>aV h.pl) hk⟩
def sH (p:Int)(alo ahi blo bhi:DR):SRes :=
 cG false (eS alo (aF alo.neg blo bhi) p false) (eS ahi (aF ahi.neg bhi blo) p true) ((eS alo (aF alo.neg blo bhi) p false).ok && (eS ahi (aF ahi.neg bhi blo) p true).ok)
def ff (p:Int)(bad:Bool)(lo hi lo' hi':DR):SRes :=
 if dL p bad lo hi lo' hi' then SRes.no else if dv lo' hi'=0 then SRes.no else
  if dv lo' hi'=-1 then sH p (aT hi) (aT lo) (aT hi') (aT lo') else sH p lo hi lo' hi'
theorem sp (lo hi:DR):dv lo hi=-1\/dv lo hi=0\/dv lo hi=1:=by
 unfold dv fy
 repeat' split
 all_goals simp
theorem mX {lo hi:DR}(hp1:1<=p)(hp2:p<=8192)(h1:oP lo hi)(l:Pl lo)(h:Pl hi):gS p false lo hi=⟨false,aT hi,aT lo⟩:=by
 have hb:eD p false lo hi=false:=by
  unfold eD ge aw bG;rw[h1.l,h1.h]
  have:=h1.le
  simp[this]
  omega
 unfold gS il;rw[hb];simp only[Bool.false_eq_true,if_false];unfold cG;rw[(Ho h).ok,(Ho l).ok]
 rfl
theorem EE {T:TypeId}{wi:World}{g:Nat}{bad:Bool}{r b a:Nat}{R B:Array Value}{ns:List (Value×Nat)}{na nb':Bool}{X Y:OA}{e f:Int}
 (S:St T w g p bad wi [(31,r,R),(31,b,B),(31,a,#[.bool na,.slice X n c,.int .i64 e,.bool nb',.slice Y m d,.int .i64 f])] ns) (ha:w.heap.size<=a) (h1:r≠a) (h2:b≠a) (x y z x' y' z':Value) :
 St T w g p bad (put6 wi a x y z x' y' z') [(31,r,R),(31,b,B),(31,a,#[x,y,z,x',y',z'])] ns:=by
 have o:=aK wi a x y z x' y' z';have hg:=S.hg;have ka:=S.ks.2.2.1.1
 have hn:∀ {ns:List (Value×Nat)},NS wi ns->NS (put6 wi a x y z x' y' z') ns:=by
  intro ns
  induction ns with
  | nil=>intro _;trivial
  | cons q t ih=>intro h;exact⟨jd h.1 ka.b6 _ _ _ _ _ _,ih h.2⟩
 exact⟨hg,fV S.O o ha,S.W.only o (by omega),⟨⟨S.ks.1.1.only o h1,S.ks.1.2⟩,⟨S.ks.2.1.1.only o h2,S.ks.2.1.2⟩,⟨ka.put6 _ _ _ _ _ _,S.ks.2.2.1.2⟩,trivial⟩,hn S.ns⟩
theorem EC {T:TypeId}{wi:World}{g:Nat}{bad:Bool}{r b a:Nat}{R A:Array Value}{ns:List (Value×Nat)}{na nb':Bool}{X Y:OA}{e f:Int}
 (S:St T w g p bad wi [(31,r,R),(31,b,#[.bool na,.slice X n c,.int .i64 e,.bool nb',.slice Y m d,.int .i64 f]),(31,a,A)] ns) (ha:w.heap.size<=b) (h1:r≠b) (h2:a≠b) (x y z x' y' z':Value) :
 St T w g p bad (put6 wi b x y z x' y' z') [(31,r,R),(31,b,#[x,y,z,x',y',z']),(31,a,A)] ns:=by
 have o:=aK wi b x y z x' y' z';have hg:=S.hg;have kb:=S.ks.2.1.1
 have hn:∀ {ns:List (Value×Nat)},NS wi ns->NS (put6 wi b x y z x' y' z') ns:=by
  intro ns
  induction ns with
  | nil=>intro _;trivial
  | cons q t ih=>intro h;exact⟨jd h.1 kb.b6 _ _ _ _ _ _,ih h.2⟩
 exact⟨hg,fV S.O o ha,S.W.only o (by omega),⟨⟨S.ks.1.1.only o h1,S.ks.1.2⟩,⟨kb.put6 _ _ _ _ _ _,S.ks.2.1.2⟩,⟨S.ks.2.2.1.1.only o h2,S.ks.2.2.1.2⟩,trivial⟩,hn S.ns⟩
theorem ro {lo hi lo' hi':DR}{B A' B':OA}{n' c' m' d':Nat}(g:Nat)(p:Int)(bad:Bool)(w:World)(hW:Wk TW w g p bad)(ha:aC w A n c lo)(hb:aC w B m d hi)(ha':aC w A' n' c' lo')(hb':aC w B' m' d' hi')(hT:bx w):
 Calls mF 91 #[.pointer (some ⟨g,0,none⟩),aG lo.neg A n c lo.e hi.neg B m d hi.e,aG lo'.neg A' n' c' lo'.e hi'.neg B' m' d' hi'.e] w (ap TW w g p (ff p bad lo hi lo' hi')):=by
 have S:=yB hW (.bool lo.neg) (.slice A n c) (.int .i64 lo.e) (.bool hi.neg) (.slice B m d) (.int .i64 hi.e) (.bool lo'.neg) (.slice A' n' c') (.int .i64 lo'.e) (.bool hi'.neg) (.slice B' m' d') (.int .i64 hi'.e);have TK:=vI g p bad _ S.W (ha.wk hW S.O) (hb.wk hW S.O) (ha'.wk hW S.O) (hb'.wk hW S.O);rw[show(((w.alloc (ce (.bool lo.neg) (.slice A n c) (.int .i64 lo.e) (.bool hi.neg) (.slice B m d) (.int .i64 hi.e))).alloc (ce (.bool lo'.neg) (.slice A' n' c') (.int .i64 lo'.e) (.bool hi'.neg) (.slice B' m' d') (.int .i64 hi'.e))).alloc z6).heap.size=w.heap.size+1+1+1 by simp]at TK;have TKH:=lY TK;clear TK;have k0:=S.ks.2.2.1.1;obtain⟨k0_0,k0_1,k0_2,k0_3,k0_4,k0_5⟩:=k0.c6;have k0l:=k0.2;clear k0;have k1:=S.ks.2.1.1;obtain⟨k1_0,k1_1,k1_2,k1_3,k1_4,k1_5⟩:=k1.c6;have k1l:=k1.2;clear k1;go_enter Tryz.func91,Tryz.ntmps91;go_wp2_with fail;refine TKH.out.mono ?_;clear TKH k0_0 k0_1 k0_2 k0_3 k0_4 k0_5 k0l k1_0 k1_1 k1_2 k1_3 k1_4 k1_5 k1l;generalize((w.alloc (ce (.bool lo.neg) (.slice A n c) (.int .i64 lo.e) (.bool hi.neg) (.slice B m d) (.int .i64 hi.e))).alloc (ce (.bool lo'.neg) (.slice A' n' c') (.int .i64 lo'.e) (.bool hi'.neg) (.slice B' m' d') (.int .i64 hi'.e))).alloc z6=w1 at *;rintro e' w2 ⟨rfl,hW2,o2⟩;replace S:=S.only o2 hW2;clear o2 hW2;obtain⟨bo,hbo⟩:∃ b:Bool,Hid (dL p bad lo hi lo' hi'=b):=⟨_,lY rfl⟩;rw[hbo.out]at S;rw[hbo.out];cases bo
 rotate_left
 . have HT:Hid (ff p bad lo hi lo' hi'=SRes.no):=lY (by unfold ff;rw[hbo.out];rfl)
   have kR:=S.ks.1.1;obtain⟨s0,s1,s2,s3q,s4,s5⟩:=kR.c6;obtain⟨rf0,rf1,rf2,rf3,rf4,rf5⟩:=kR.f6;go_wp2_with fail;rw[HT.out];obtain⟨q1,q2,q3,q4⟩:=S.give (lo:=DR.zero) (hi:=DR.zero) (aq _) (aq _) kR (by omega);exact bodyPost_ret (v:=aG false none 0 0 0 false none 0 0 0) (by simp[results,ou,go_sem,s0,s1,s2,s3q,s4,s5]) rfl ⟨none,0,0,none,0,0,rfl,q1,q2,q3,q4⟩
 . skip
   obtain⟨hbad,hp,hR,hR'⟩:=eB hbo.out;have p1:Pl lo:=⟨hR.l,(ha.plain hR.l).pl⟩;have p2:Pl hi:=⟨hR.h,(hb.plain hR.h).pl⟩;have p3:Pl lo':=⟨hR'.l,(ha'.plain hR'.l).pl⟩;have p4:Pl hi':=⟨hR'.h,(hb'.plain hR'.h).pl⟩;have HTab:Hid (∀ w',az w w' g->bx w'):=lY (fun w' o=>hT.wk hW o);have SG:Hid (∀ w',az w w' g->Calls mF 61 #[aG lo'.neg A' n' c' lo'.e hi'.neg B' m' d' hi'.e] w' fun o w2=>o=.returned (.int .i64 (dv lo' hi'))/\Below w'.heap.size w' w2):=lY (fun w' o=>yG w' (ha'.wk hW o) (hb'.wk hW o));have HT0:Hid (ff p bad lo hi lo' hi'=if dv lo' hi'=0 then SRes.no else if dv lo' hi'=-1 then sH p (aT hi) (aT lo) (aT hi') (aT lo') else sH p lo hi lo' hi'):=lY (by unfold ff;rw[hbo.out];rfl);have hz:=sp lo' hi';generalize dv lo' hi'=z at *;clear hbo hbad;have k2:=S.ks.2.2.1.1;obtain⟨k2_0,k2_1,k2_2,k2_3,k2_4,k2_5⟩:=k2.c6;have k2l:=k2.2;clear k2;have k3:=S.ks.2.1.1;obtain⟨k3_0,k3_1,k3_2,k3_3,k3_4,k3_5⟩:=k3.c6;have k3l:=k3.2;clear k3;go_wp2_with fail;refine(SG.out _ S.O).mono ?_;rintro e' w3 ⟨rfl,b3⟩;replace S:=S.below b3;clear b3 SG k2_0 k2_1 k2_2 k2_3 k2_4 k2_5 k2l k3_0 k3_1 k3_2 k3_3 k3_4 k3_5 k3l
   by_cases hz0:z=0
   . subst hz0
     have HT:=lY (HT0.out.trans (if_pos rfl));clear HT0 hz;have k4:=S.ks.2.2.1.1;obtain⟨k4_0,k4_1,k4_2,k4_3,k4_4,k4_5⟩:=k4.c6;have k4l:=k4.2;clear k4;go_wp2_with fail;refine(jm g p false w3 S.W).mono ?_;rintro e' w4 ⟨rfl,hW4,o4⟩;replace S:=S.only o4 hW4;clear o4 hW4 k4_0 k4_1 k4_2 k4_3 k4_4 k4_5 k4l;have kR:=S.ks.1.1;obtain⟨s0,s1,s2,s3q,s4,s5⟩:=kR.c6;obtain⟨rf0,rf1,rf2,rf3,rf4,rf5⟩:=kR.f6;go_wp2_with fail;rw[HT.out];obtain⟨q1,q2,q3,q4⟩:=S.give (lo:=DR.zero) (hi:=DR.zero) (aq _) (aq _) kR (by omega);exact bodyPost_ret (v:=aG false none 0 0 0 false none 0 0 0) (by simp[results,ou,go_sem,s0,s1,s2,s3q,s4,s5]) rfl ⟨none,0,0,none,0,0,rfl,q1,q2,q3,q4⟩
   have HT1:=lY (HT0.out.trans (if_neg hz0));clear HT0
   have hzb:(z == 0)=false:=by simpa using hz0
   go_upto_block 0 with fail
   go_cut [] (fun wx=>∃ q1 q2 q3 q4 X1 x1 y1 X2 x2 y2 X3 x3 y3 X4 x4 y4,Pl q1/\Pl q2/\Pl q3/\Pl q4/\Hid (ff p bad lo hi lo' hi'=sH p q1 q2 q3 q4)/\St TW w g p false wx [(31,w.heap.size+1+1,zs),(31,w.heap.size+1,s6 q3 X3 x3 y3 q4 X4 x4 y4),(31,w.heap.size,s6 q1 X1 x1 y1 q2 X2 x2 y2)] [(.slice X1 x1 y1,q1.m),(.slice X2 x2 y2,q2.m),(.slice X3 x3 y3,q3.m),(.slice X4 x4 y4,q4.m)])
   case first =>
    by_cases hz1:z=-1
    . subst hz1
      obtain⟨q1,hq1⟩:∃ q,aT hi=q:=⟨_,rfl⟩;obtain⟨q2,hq2⟩:∃ q,aT lo=q:=⟨_,rfl⟩;obtain⟨q3,hq3⟩:∃ q,aT hi'=q:=⟨_,rfl⟩;obtain⟨q4,hq4⟩:∃ q,aT lo'=q:=⟨_,rfl⟩;have HT2:=HT1.out.trans (if_pos rfl);rw[hq1,hq2,hq3,hq4]at HT2;have HT:=lY HT2
      have Q1:Pl q1:=hq1 ▸ Ho p2
      have Q2:Pl q2:=hq2 ▸ Ho p1
      have Q3:Pl q3:=hq3 ▸ Ho p4
      have Q4:Pl q4:=hq4 ▸ Ho p3
      clear HT1 HT2 hz hz0 hzb
      have N1:Hid (∀ w',Wk TW w' g p false->az w w' g->Calls mF 69 #[.pointer (some ⟨g,0,none⟩),aG lo.neg A n c lo.e hi.neg B m d hi.e] w' (ap TW w' g p ⟨false,q1,q2⟩)):=lY (fun w' k o=>by
       have:=wm g p false w' k (ha.wk hW o) (hb.wk hW o) (hT.wk hW o)
       rw[mX hp.1 hp.2 hR p1 p2,hq1,hq2]at this
       exact this)
      have N2:Hid (∀ w',Wk TW w' g p false->az w w' g->Calls mF 69 #[.pointer (some ⟨g,0,none⟩),aG lo'.neg A' n' c' lo'.e hi'.neg B' m' d' hi'.e] w' (ap TW w' g p ⟨false,q3,q4⟩)):=lY (fun w' k o=>by
       have:=wm g p false w' k (ha'.wk hW o) (hb'.wk hW o) (hT.wk hW o)
       rw[mX hp.1 hp.2 hR' p3 p4,hq3,hq4]at this
       exact this)
      clear hq1 hq2 hq3 hq4;go_upto_region 8 with fail;have SD:=S.drew;have hzz:w.heap.size<=w3.heap.size:=S.size;clear S;obtain⟨ia0,ia1,ia2,ia3,ia4,ia5⟩:=SD.ks.2.2.1.1.c6;obtain⟨ib0,ib1,ib2,ib3,ib4,ib5⟩:=SD.ks.2.1.1.c6
      go_region_with (first
       | (go_at_call_of 69 (tz #[oY lo.neg,oM A n c,qK .i64 lo.e,oY hi.neg,oM B m d,qK .i64 hi.e]);refine(N1.out _ SD.W SD.O).mono ?_;rintro e' v1 ⟨X1,x1,y1,X2,x2,y2,rfl,m1,m2,hW1,o1⟩;have S1:=SD.only o1 hW1;obtain⟨ja0,ja1,ja2,ja3,ja4,ja5⟩:=S1.ks.2.2.1.1.c6;obtain⟨jb0,jb1,jb2,jb3,jb4,jb5⟩:=S1.ks.2.1.1.c6)
       | (go_at_call_of 69 (tz #[oY lo'.neg,oM A' n' c',qK .i64 lo'.e,oY hi'.neg,oM B' m' d',qK .i64 hi'.e]);refine(N2.out _ S1.W S1.O).mono ?_;rintro e' v2 ⟨X3,x3,y3,X4,x4,y4,rfl,m3,m4,hW2,o2⟩;have S2:=((((S1.only o2 hW2).num m4).num m3).num (gG S1.W o2 m2)).num (gG S1.W o2 m1);obtain⟨ra0,ra1,ra2,ra3,ra4,ra5⟩:=S2.ks.2.2.1.1.c6;obtain⟨rb0,rb1,rb2,rb3,rb4,rb5⟩:=S2.ks.2.1.1.c6;obtain⟨fa0,fa1,fa2,fa3,fa4,fa5⟩:=S2.ks.2.2.1.1.f6;obtain⟨fb0,fb1,fb2,fb3,fb4,fb5⟩:=S2.ks.2.1.1.f6))
      all_goals (
       go_wp2_with fail;go_meet
       exact⟨q1,q2,q3,q4,X1,x1,y1,X2,x2,y2,X3,x3,y3,X4,x4,y4,Q1,Q2,Q3,Q4,HT,EC (EE S2 (by omega) (by omega) (by omega) _ _ _ _ _ _) (by omega) (by omega) (by omega) _ _ _ _ _ _⟩)
    . skip
      have hz2:z=1:=by omega
      subst hz2;have HT:=lY (HT1.out.trans (if_neg (by decide)));clear HT1;go_wp2_with fail;go_meet;exact⟨lo,hi,lo',hi',A,n,c,B,m,d,A',n',c',B',m',d',p1,p2,p3,p4,HT,(((S.num ((hb'.wk hW S.O).num hR'.h)).num ((ha'.wk hW S.O).num hR'.l)).num ((hb.wk hW S.O).num hR.h)).num ((ha.wk hW S.O).num hR.l)⟩
   case rest =>
    clear S;obtain⟨q1,q2,q3,q4,X1,x1,y1,X2,x2,y2,X3,x3,y3,X4,x4,y4,Q1,Q2,Q3,Q4,HT,S⟩:=hcut;clear HT1 hz hz0 hzb p1 p2 p3 p4 hR hR';unfold sH at HT;have hz:=S.size;go_upto_region 9 with fail
    go_cut [7,8] (fun s7 s8 wx=>∃ g7 g8,s7=.pointer (some ⟨g7,0,none⟩)/\s8=.pointer (some ⟨g8,0,none⟩)/\g7≠g8/\w.heap.size+2 < g7/\w.heap.size+2 < g8/\St TW w g p false wx [(24,g7,s3 q4 X4 x4 y4),(24,g8,s3 q3 X3 x3 y3),(31,w.heap.size+1+1,zs),(31,w.heap.size+1,s6 q3 X3 x3 y3 q4 X4 x4 y4),(31,w.heap.size,s6 q1 X1 x1 y1 q2 X2 x2 y2)] [(.slice X1 x1 y1,q1.m),(.slice X2 x2 y2,q2.m),(.slice X3 x3 y3,q3.m),(.slice X4 x4 y4,q4.m)])
    case first =>
     have hzr:w.heap.size+2 < wc.heap.size:=S.ks.1.1.2;have EA:=(S.alloc 24 #[.bool q3.neg,.slice X3 x3 y3,.int .i64 q3.e]).alloc 24 #[.bool q4.neg,.slice X4 x4 y4,.int .i64 q4.e];have EB0:=(S.alloc 24 #[.bool q4.neg,.slice X4 x4 y4,.int .i64 q4.e]).alloc 24 #[.bool q3.neg,.slice X3 x3 y3,.int .i64 q3.e]
     have EB:St TW w g p false ((wc.alloc (.cells #[.bool q4.neg,.slice X4 x4 y4,.int .i64 q4.e] 24)).alloc (.cells #[.bool q3.neg,.slice X3 x3 y3,.int .i64 q3.e] 24)) ((24,wc.heap.size,s3 q4 X4 x4 y4) :: (24,(wc.alloc (.cells #[.bool q4.neg,.slice X4 x4 y4,.int .i64 q4.e] 24)).heap.size,s3 q3 X3 x3 y3) :: [(31,w.heap.size+1+1,zs),(31,w.heap.size+1,s6 q3 X3 x3 y3 q4 X4 x4 y4),(31,w.heap.size,s6 q1 X1 x1 y1 q2 X2 x2 y2)]) [(.slice X1 x1 y1,q1.m),(.slice X2 x2 y2,q2.m),(.slice X3 x3 y3,q3.m),(.slice X4 x4 y4,q4.m)] :=
      ⟨EB0.hg,EB0.O,EB0.W,⟨EB0.ks.2.1,EB0.ks.1,EB0.ks.2.2⟩,EB0.ns⟩
     have ED:=EA.drew;have EF:=EB.drew
     have sA:(wc.alloc (.cells #[.bool q3.neg,.slice X3 x3 y3,.int .i64 q3.e] 24)).heap.size=wc.heap.size+1:=by simp
     have sB:(wc.alloc (.cells #[.bool q4.neg,.slice X4 x4 y4,.int .i64 q4.e] 24)).heap.size=wc.heap.size+1:=by simp
     rw[sA]at ED;rw[sB]at EF;clear EA EB EB0 sA sB;obtain⟨i0,i1,i2,i3,i4,i5⟩:=S.ks.2.1.1.c6;clear S
     go_region_held3 (fun w'=>w'.cell? ⟨w.heap.size+1,0,none⟩=some (.bool q3.neg)/\w'.cell? ⟨w.heap.size+1,1,none⟩=some (.slice X3 x3 y3)/\w'.cell? ⟨w.heap.size+1,2,none⟩=some (.int .i64 q3.e)/\w'.cell? ⟨w.heap.size+1,3,none⟩=some (.bool q4.neg)/\w'.cell? ⟨w.heap.size+1,4,none⟩=some (.slice X4 x4 y4)/\w'.cell? ⟨w.heap.size+1,5,none⟩=some (.int .i64 q4.e)) (go_keep) (fail)
     all_goals (
      go_wp2_with fail;go_meet
      first
       | exact⟨_,_,rfl,rfl,by omega,by omega,by omega,ED⟩
       | exact⟨_,_,rfl,rfl,by omega,by omega,by omega,EF⟩)
    case rest =>
     clear S hz;obtain⟨g7,g8,rfl,rfl,h78,h7,h8,S⟩:=hcut;have k5:=S.ks.2.2.2.2.1.1;obtain⟨k5_0,k5_1,k5_2,k5_3,k5_4,k5_5⟩:=k5.c6;have k5l:=k5.2;clear k5
     go_upto_if 41 with fail
     clear k5_0 k5_1 k5_2 k5_3 k5_4 k5_5 k5l
     go_cut [] (fun wx=>∃ Y Y1 Y2,St TW w g p false wx [(24,g7,#[.bool (aF q1.neg q3 q4).neg,.slice Y Y1 Y2,.int .i64 (aF q1.neg q3 q4).e]),(24,g8,s3 q3 X3 x3 y3),(31,w.heap.size+1+1,zs),(31,w.heap.size+1,s6 q3 X3 x3 y3 q4 X4 x4 y4),(31,w.heap.size,s6 q1 X1 x1 y1 q2 X2 x2 y2)] [(.slice Y Y1 Y2,(aF q1.neg q3 q4).m),(.slice X1 x1 y1,q1.m),(.slice X2 x2 y2,q2.m),(.slice X3 x3 y3,q3.m),(.slice X4 x4 y4,q4.m)])
     case first =>
      cases hcn:q1.neg
      . skip
        go_wp2_with fail;go_meet;rw[show(aF q1.neg q3 q4)=q4 by unfold aF;rw[hcn];rfl];exact⟨_,_,_,S.num S.ns.2.2.2.1⟩
      . skip
        have k6:=S.ks.2.2.2.1.1;obtain⟨k6_0,k6_1,k6_2,k6_3,k6_4,k6_5⟩:=k6.c6;have k6l:=k6.2;clear k6;have k7:=S.ks.1.1;obtain⟨k7_0,k7_1,k7_2⟩:=k7.c3;obtain⟨k7f0,k7f1,k7f2⟩:=k7.f3;have k7l:=k7.2;clear k7;go_wp2_with fail;go_meet;have SR:St TW w g p false wc [(24,g8,s3 q3 X3 x3 y3),(31,w.heap.size+1+1,zs),(31,w.heap.size+1,s6 q3 X3 x3 y3 q4 X4 x4 y4),(31,w.heap.size,s6 q1 X1 x1 y1 q2 X2 x2 y2)] [(.slice X1 x1 y1,q1.m),(.slice X2 x2 y2,q2.m),(.slice X3 x3 y3,q3.m),(.slice X4 x4 y4,q4.m)]:=⟨S.hg,S.O,S.W,⟨S.ks.2.1,S.ks.2.2.1,S.ks.2.2.2.1,S.ks.2.2.2.2.1,trivial⟩,S.ns⟩;have SP:=(SR.num S.ns.2.2.1).putK S.ks.1.1 (by omega) ⟨by omega,by omega,by omega,by omega,trivial⟩ (.bool q3.neg) (.slice X3 x3 y3) (.int .i64 q3.e);rw[show(aF q1.neg q3 q4)=q3 by unfold aF;rw[hcn];rfl];exact⟨_,_,_,⟨SP.hg,SP.O,SP.W,⟨SP.ks.1,SP.ks.2.1,SP.ks.2.2.1,SP.ks.2.2.2.1,SP.ks.2.2.2.2.1,trivial⟩,SP.ns⟩⟩
     case rest =>
      clear S;obtain⟨Y,Y1,Y2,S⟩:=hcut;have k8:=S.ks.2.2.2.2.1.1;obtain⟨k8_0,k8_1,k8_2,k8_3,k8_4,k8_5⟩:=k8.c6;have k8l:=k8.2;clear k8
      go_upto_if 46 with fail
      clear k8_0 k8_1 k8_2 k8_3 k8_4 k8_5 k8l
      go_cut [] (fun wx=>∃ Z Z1 Z2,St TW w g p false wx [(24,g7,#[.bool (aF q1.neg q3 q4).neg,.slice Y Y1 Y2,.int .i64 (aF q1.neg q3 q4).e]),(24,g8,#[.bool (aF q2.neg q4 q3).neg,.slice Z Z1 Z2,.int .i64 (aF q2.neg q4 q3).e]),(31,w.heap.size+1+1,zs),(31,w.heap.size+1,s6 q3 X3 x3 y3 q4 X4 x4 y4),(31,w.heap.size,s6 q1 X1 x1 y1 q2 X2 x2 y2)] [(.slice Z Z1 Z2,(aF q2.neg q4 q3).m),(.slice Y Y1 Y2,(aF q1.neg q3 q4).m),(.slice X1 x1 y1,q1.m),(.slice X2 x2 y2,q2.m),(.slice X3 x3 y3,q3.m),(.slice X4 x4 y4,q4.m)])
      case first =>
       cases hcn:q2.neg
       . skip
         go_wp2_with fail;go_meet;rw[show(aF q2.neg q4 q3)=q3 by unfold aF;rw[hcn];rfl];exact⟨_,_,_,S.num S.ns.2.2.2.1⟩
       . skip
         have k9:=S.ks.2.2.2.1.1;obtain⟨k9_0,k9_1,k9_2,k9_3,k9_4,k9_5⟩:=k9.c6;have k9l:=k9.2;clear k9;have k10:=S.ks.2.1.1;obtain⟨k10_0,k10_1,k10_2⟩:=k10.c3;obtain⟨k10f0,k10f1,k10f2⟩:=k10.f3;have k10l:=k10.2;clear k10;go_wp2_with fail;go_meet;have SR:St TW w g p false wc [(24,g7,#[.bool (aF q1.neg q3 q4).neg,.slice Y Y1 Y2,.int .i64 (aF q1.neg q3 q4).e]),(31,w.heap.size+1+1,zs),(31,w.heap.size+1,s6 q3 X3 x3 y3 q4 X4 x4 y4),(31,w.heap.size,s6 q1 X1 x1 y1 q2 X2 x2 y2)] [(.slice Y Y1 Y2,(aF q1.neg q3 q4).m),(.slice X1 x1 y1,q1.m),(.slice X2 x2 y2,q2.m),(.slice X3 x3 y3,q3.m),(.slice X4 x4 y4,q4.m)]:=⟨S.hg,S.O,S.W,⟨S.ks.1,S.ks.2.2.1,S.ks.2.2.2.1,S.ks.2.2.2.2.1,trivial⟩,S.ns⟩;have SP:=(SR.num S.ns.2.2.2.2.1).putK S.ks.2.1.1 (by omega) ⟨by omega,by omega,by omega,by omega,trivial⟩ (.bool q4.neg) (.slice X4 x4 y4) (.int .i64 q4.e);rw[show(aF q2.neg q4 q3)=q4 by unfold aF;rw[hcn];rfl];exact⟨_,_,_,⟨SP.hg,SP.O,SP.W,⟨SP.ks.2.1,SP.ks.1,SP.ks.2.2.1,SP.ks.2.2.2.1,SP.ks.2.2.2.2.1,trivial⟩,SP.ns⟩⟩
      case rest =>
       clear S;obtain⟨Z,Z1,Z2,S⟩:=hcut;obtain⟨u,hu⟩:∃ u,aF q1.neg q3 q4=u:=⟨_,rfl⟩;obtain⟨v,hv⟩:∃ v,aF q2.neg q4 q3=v:=⟨_,rfl⟩
       have QU:Pl u:=hu ▸ vZ Q3 Q4
       have QV:Pl v:=hv ▸ vZ Q4 Q3
       rw[hu,hv]at HT;rw[hu,hv]at S;clear hu hv;have D1:Hid (∀ w',az w w' g->am w' (.slice X1 x1 y1) q1.m->am w' (.slice Y Y1 Y2) u.m->Calls mF 152 #[aP q1.neg X1 x1 y1 q1.e,aP u.neg Y Y1 Y2 u.e,.int .i64 p,.bool false] w' (DP w' (eS q1 u p false))):=lY (fun w' o h1 h2=>Ab p false w' (Q1.din h1) (QU.din h2) (HTab.out w' o) QU.ok);have D2:Hid (∀ w',az w w' g->am w' (.slice X2 x2 y2) q2.m->am w' (.slice Z Z1 Z2) v.m->Calls mF 152 #[aP q2.neg X2 x2 y2 q2.e,aP v.neg Z Z1 Z2 v.e,.int .i64 p,.bool true] w' (DP w' (eS q2 v p true))):=lY (fun w' o h1 h2=>Ab p true w' (Q2.din h1) (QV.din h2) (HTab.out w' o) QV.ok);generalize eS q1 u p false=r1 at *;generalize eS q2 v p true=r2 at *;go_upto_region 14 with fail
       go_cut [9,10] (fun sd so wx=>∃ g11 A11 n11 c11,sd=.pointer (some ⟨g11,0,none⟩)/\so=.bool r1.ok/\w.heap.size<=g11/\St TW w g p false wx [(24,g11,s3 r1 A11 n11 c11),(24,g7,s3 u Y Y1 Y2),(24,g8,s3 v Z Z1 Z2),(31,w.heap.size+1+1,zs),(31,w.heap.size+1,s6 q3 X3 x3 y3 q4 X4 x4 y4),(31,w.heap.size,s6 q1 X1 x1 y1 q2 X2 x2 y2)] [(.slice A11 n11 c11,r1.m),(.slice Z Z1 Z2,v.m),(.slice Y Y1 Y2,u.m),(.slice X1 x1 y1,q1.m),(.slice X2 x2 y2,q2.m),(.slice X3 x3 y3,q3.m),(.slice X4 x4 y4,q4.m)])
       case first =>
        have HC:Hid (∀ w',St TW w g p false w' [(24,g7,s3 u Y Y1 Y2),(24,g8,s3 v Z Z1 Z2),(31,w.heap.size+1+1,zs),(31,w.heap.size+1,s6 q3 X3 x3 y3 q4 X4 x4 y4),(31,w.heap.size,s6 q1 X1 x1 y1 q2 X2 x2 y2)] [(.slice Z Z1 Z2,v.m),(.slice Y Y1 Y2,u.m),(.slice X1 x1 y1,q1.m),(.slice X2 x2 y2,q2.m),(.slice X3 x3 y3,q3.m),(.slice X4 x4 y4,q4.m)]->C3 w' (w.heap.size) (.bool q1.neg) (.slice X1 x1 y1) (.int .i64 q1.e)/\C3 w' g7 (.bool u.neg) (.slice Y Y1 Y2) (.int .i64 u.e)/\w'.cell? ⟨g,0,none⟩=some (.int .i64 p)):=lY (fun w' h=>⟨h.ks.2.2.2.2.1.1.c3,h.ks.1.1.c3,h.wc.1⟩);have hz0:=S.ks.1.1.2;have hz1:=S.ks.2.1.1.2;have hz2:=S.ks.2.2.1.1.2;have hz3:=S.ks.2.2.2.1.1.2;have hz4:=S.ks.2.2.2.2.1.1.2;have hz:w.heap.size<=wc.heap.size:=S.size;have SD:=S.drew;have SA:=SD.below (ag wc.drew (bJ (.bool false) (.slice none 0 0) (.int .i64 0)));have XS1:=HC.out _ SD;clear S
        go_region_held3 (fun w'=>C3 w' (w.heap.size) (.bool q1.neg) (.slice X1 x1 y1) (.int .i64 q1.e)/\C3 w' g7 (.bool u.neg) (.slice Y Y1 Y2) (.int .i64 u.e)/\w'.cell? ⟨g,0,none⟩=some (.int .i64 p))
         (first | exact XS1 | exact HC.out _ (SD.below b1) | exact HC.out _ SA | exact HC.out _ (SA.below b1) | exact HC.out _ ((SD.below b1).below (ag _ _)) | exact HC.out _ ((SA.below b1).put KZ1.kc hz ⟨by omega,by omega,by omega,by omega,by omega,trivial⟩ _ _ _))
         (first | (go_at_call 152;refine(D1.out _ (by first | exact SD.O | exact SA.O) (by first | exact SD.ns.2.2.1 | exact SA.ns.2.2.1) (by first | exact SD.ns.2.1 | exact SA.ns.2.1)).mono ?_;rintro e' v1 ⟨A1,p1,c1,rfl,n1,b1⟩;first | (have KZ1:K3 v1 wc.heap.size (.bool false) (.slice none 0 0) (.int .i64 0):=(K3.made wc.drew (.bool false) (.slice none 0 0) (.int .i64 0)).adv b1;obtain⟨kf0,kf1,kf2⟩:=KZ1.frozen;obtain⟨kc0,kc1,kc2,kc3⟩:=KZ1.cell) | skip))
        all_goals (go_wp2_with fail;go_meet;first | exact⟨_,_,_,_,rfl,rfl,Nat.le_trans hz b1.size,((SD.below b1).num n1).alloc _ _⟩ | exact⟨_,_,_,_,rfl,rfl,hz,((SA.below b1).num n1).putK KZ1.kc hz ⟨by omega,by omega,by omega,by omega,by omega,trivial⟩ _ _ _⟩)
       case rest =>
        clear S;obtain⟨g11,A11,n11,c11,rfl,rfl,hg11,S⟩:=hcut;go_upto_region 15 with fail
        go_cut [11,12] (fun sd so wx=>∃ g12 A12 n12 c12,sd=.pointer (some ⟨g12,0,none⟩)/\so=.bool r2.ok/\w.heap.size<=g12/\St TW w g p false wx [(24,g12,s3 r2 A12 n12 c12),(24,g11,s3 r1 A11 n11 c11),(24,g7,s3 u Y Y1 Y2),(24,g8,s3 v Z Z1 Z2),(31,w.heap.size+1+1,zs),(31,w.heap.size+1,s6 q3 X3 x3 y3 q4 X4 x4 y4),(31,w.heap.size,s6 q1 X1 x1 y1 q2 X2 x2 y2)] [(.slice A12 n12 c12,r2.m),(.slice A11 n11 c11,r1.m),(.slice Z Z1 Z2,v.m),(.slice Y Y1 Y2,u.m),(.slice X1 x1 y1,q1.m),(.slice X2 x2 y2,q2.m),(.slice X3 x3 y3,q3.m),(.slice X4 x4 y4,q4.m)])
        case first =>
         have HC:Hid (∀ w',St TW w g p false w' [(24,g11,s3 r1 A11 n11 c11),(24,g7,s3 u Y Y1 Y2),(24,g8,s3 v Z Z1 Z2),(31,w.heap.size+1+1,zs),(31,w.heap.size+1,s6 q3 X3 x3 y3 q4 X4 x4 y4),(31,w.heap.size,s6 q1 X1 x1 y1 q2 X2 x2 y2)] [(.slice A11 n11 c11,r1.m),(.slice Z Z1 Z2,v.m),(.slice Y Y1 Y2,u.m),(.slice X1 x1 y1,q1.m),(.slice X2 x2 y2,q2.m),(.slice X3 x3 y3,q3.m),(.slice X4 x4 y4,q4.m)]->w'.cell? ⟨w.heap.size,3,none⟩=some (.bool q2.neg)/\w'.cell? ⟨w.heap.size,4,none⟩=some (.slice X2 x2 y2)/\w'.cell? ⟨w.heap.size,5,none⟩=some (.int .i64 q2.e)/\C3 w' g8 (.bool v.neg) (.slice Z Z1 Z2) (.int .i64 v.e)/\w'.cell? ⟨g,0,none⟩=some (.int .i64 p)):=lY (fun w' h=>⟨h.ks.2.2.2.2.2.1.1.at_ 3 _ rfl,h.ks.2.2.2.2.2.1.1.at_ 4 _ rfl,h.ks.2.2.2.2.2.1.1.at_ 5 _ rfl,h.ks.2.2.1.1.c3,h.wc.1⟩);have hz0:=S.ks.1.1.2;have hz1:=S.ks.2.1.1.2;have hz2:=S.ks.2.2.1.1.2;have hz3:=S.ks.2.2.2.1.1.2;have hz4:=S.ks.2.2.2.2.1.1.2;have hz5:=S.ks.2.2.2.2.2.1.1.2;have hz:w.heap.size<=wc.heap.size:=S.size;have SD:=S.drew;have SA:=SD.below (ag wc.drew (bJ (.bool false) (.slice none 0 0) (.int .i64 0)));have XS1:=HC.out _ SD;clear S
         go_region_held3 (fun w'=>w'.cell? ⟨w.heap.size,3,none⟩=some (.bool q2.neg)/\w'.cell? ⟨w.heap.size,4,none⟩=some (.slice X2 x2 y2)/\w'.cell? ⟨w.heap.size,5,none⟩=some (.int .i64 q2.e)/\C3 w' g8 (.bool v.neg) (.slice Z Z1 Z2) (.int .i64 v.e)/\w'.cell? ⟨g,0,none⟩=some (.int .i64 p))
          (first | exact XS1 | exact HC.out _ (SD.below b1) | exact HC.out _ SA | exact HC.out _ (SA.below b1) | exact HC.out _ ((SD.below b1).below (ag _ _)) | exact HC.out _ ((SA.below b1).put KZ1.kc hz ⟨by omega,by omega,by omega,by omega,by omega,by omega,trivial⟩ _ _ _))
          (first | (go_at_call 152;refine(D2.out _ (by first | exact SD.O | exact SA.O) (by first | exact SD.ns.2.2.2.2.1 | exact SA.ns.2.2.2.2.1) (by first | exact SD.ns.2.1 | exact SA.ns.2.1)).mono ?_;rintro e' v1 ⟨A1,p1,c1,rfl,n1,b1⟩;first | (have KZ1:K3 v1 wc.heap.size (.bool false) (.slice none 0 0) (.int .i64 0):=(K3.made wc.drew (.bool false) (.slice none 0 0) (.int .i64 0)).adv b1;obtain⟨kf0,kf1,kf2⟩:=KZ1.frozen;obtain⟨kc0,kc1,kc2,kc3⟩:=KZ1.cell) | skip))
         all_goals (go_wp2_with fail;go_meet;first | exact⟨_,_,_,_,rfl,rfl,Nat.le_trans hz b1.size,((SD.below b1).num n1).alloc _ _⟩ | exact⟨_,_,_,_,rfl,rfl,hz,((SA.below b1).num n1).putK KZ1.kc hz ⟨by omega,by omega,by omega,by omega,by omega,by omega,trivial⟩ _ _ _⟩)
        case rest =>
         clear S;obtain⟨g12,A12,n12,c12,rfl,rfl,hg12,S⟩:=hcut;have k13:=S.ks.2.1.1;obtain⟨k13_0,k13_1,k13_2⟩:=k13.c3;have k13l:=k13.2;clear k13;have k14:=S.ks.1.1;obtain⟨k14_0,k14_1,k14_2⟩:=k14.c3;have k14l:=k14.2;clear k14;cases hr1:r1.ok
         . skip
           rw[hr1]at HT
           first | rw[Bool.false_and]at HT | rw[Bool.true_and]at HT
           go_wp2_with fail;refine(gJ g p false r1 r2 A11 A12 n11 c11 n12 c12 (false) _ S.W S.ns.2.1 S.ns.1).mono ?_;rintro e' w16 ⟨A9,p9,c9,B9,q9,d9,rfl,m1,m2,hW9,o9⟩;replace S:=S.only o9 hW9;clear o9 hW9 k13_0 k13_1 k13_2 k13l k14_0 k14_1 k14_2 k14l;generalize cG false r1 r2 (false)=r at *;have kR:=S.ks.2.2.2.2.1.1;obtain⟨s0,s1,s2,s3q,s4,s5⟩:=kR.c6;obtain⟨rf0,rf1,rf2,rf3,rf4,rf5⟩:=kR.f6;go_wp2_with fail;rw[HT.out];obtain⟨q1,q2,q3,q4⟩:=S.give (lo:=r.lo) (hi:=r.hi) m1 m2 kR (by omega);exact bodyPost_ret (v:=aG r.lo.neg A9 p9 c9 r.lo.e r.hi.neg B9 q9 d9 r.hi.e) (by simp[results,ou,go_sem,s0,s1,s2,s3q,s4,s5]) rfl ⟨A9,p9,c9,B9,q9,d9,rfl,q1,q2,q3,q4⟩
         . skip
           rw[hr1]at HT
           first | rw[Bool.false_and]at HT | rw[Bool.true_and]at HT
           go_wp2_with fail;refine(gJ g p false r1 r2 A11 A12 n11 c11 n12 c12 (r2.ok) _ S.W S.ns.2.1 S.ns.1).mono ?_;rintro e' w17 ⟨A9,p9,c9,B9,q9,d9,rfl,m1,m2,hW9,o9⟩;replace S:=S.only o9 hW9;clear o9 hW9 k13_0 k13_1 k13_2 k13l k14_0 k14_1 k14_2 k14l;generalize cG false r1 r2 (r2.ok)=r at *;have kR:=S.ks.2.2.2.2.1.1;obtain⟨s0,s1,s2,s3q,s4,s5⟩:=kR.c6;obtain⟨rf0,rf1,rf2,rf3,rf4,rf5⟩:=kR.f6;go_wp2_with fail;rw[HT.out];obtain⟨q1,q2,q3,q4⟩:=S.give (lo:=r.lo) (hi:=r.hi) m1 m2 kR (by omega);exact bodyPost_ret (v:=aG r.lo.neg A9 p9 c9 r.lo.e r.hi.neg B9 q9 d9 r.hi.e) (by simp[results,ou,go_sem,s0,s1,s2,s3q,s4,s5]) rfl ⟨A9,p9,c9,B9,q9,d9,rfl,q1,q2,q3,q4⟩
end
end Go.Proofs.YtmbmohibpkepdaaGreatDoor
