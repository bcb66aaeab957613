import Derived.Test.YtmbmohibpkepdaaGreatDoorPlSGDy13
import Derived.Test.YtmbmohibpkepdaaGreatDoorPlSGSp3
set_option maxRecDepth 8000
set_option maxHeartbeats 4000000
open Go.Lib renaming hid->lY
open Go.Proofs.Tryz renaming prog->mF, results62->ou, results105->oY
open Go.World renaming setCell->oM
namespace Go.Proofs.YtmbmohibpkepdaaGreatDoor
open Go.RowKit
variable {A B:OA} {c d m n:Nat} {r s:DR} {w:World}
def oI (l:DL)(a b:Nat):Int:=gh (aj (l.ng a) (l.n a) (l.x a) (l.e a) && aj (l.ng b) (l.n b) (l.x b) (l.e b)) (l.ng a) (l.ng b) (vs ai (l.x a) (l.n a)) (vs ai (l.x b) (l.n b)) (l.e a) (l.e b)
def iU (l:DL)(most:Bool)(a b:Nat):Bool:=if most then decide (0 < oI l a b) else decide (oI l a b < 0)
def fH (l:DL)(most:Bool):Nat->Nat
 | 0=>0
 | i+1=>if iU l most (i+1) (fH l most i) then i+1 else fH l most i
theorem As (l:DL)(most:Bool)(i:Nat):fH l most i<=i:=by
 induction i with
 | zero=>exact Nat.le_refl _
 | succ i ih=>unfold fH;split <;> omega
def Ec (w:World)(l:DL)(J:Nat)(e:Ending)(w':World):Prop:=e=.returned (aP (l.ng J) (l.A J) (l.n J) (l.c J) (l.e J))/\Below w.heap.size w w'
structure LB (w wr:World)(gr gb:Nat)(l:DL)(b:Nat):Prop where
 bel:Below w.heap.size w wr
 kr:KC 24 wr gr zd
 kb:KC 24 wr gb #[.bool (l.ng b),.slice (l.A b) (l.n b) (l.c b),.int .i64 (l.e b)]
 ne:gr≠gb
 lo:w.heap.size<=gb
theorem LB.adv {wr w2:World}{gr gb:Nat}{l:DL}{b:Nat}(h:LB w wr gr gb l b)(hb:Below wr.heap.size wr w2):LB w w2 gr gb l b:=⟨aB h.bel hb,h.kr.adv hb,h.kb.adv hb,h.ne,h.lo⟩
theorem LB.put {wr:World}{gr gb:Nat}{l:DL}{b:Nat}(h:LB w wr gr gb l b)(b':Nat):LB w (put3 wr gb (.bool (l.ng b')) (.slice (l.A b') (l.n b') (l.c b')) (.int .i64 (l.e b'))) gr gb l b' :=
 ⟨ct h.bel (aZ _ _ _ _ _) h.lo,h.kr.only (aZ _ _ _ _ _) h.ne,h.kb.put3 _ _ _,h.ne,h.lo⟩
theorem pS (L:OA)(k cp:Nat)(l:DL)(most:Bool)(w:World)(h:Ls w L k cp l)(hk0:0 < k)(hk:k<=1000)(hlen:∀ j,j < k->l.n j<=400000):
 Calls mF 102 #[.slice L k cp,.bool most] w (Ec w l (fH l most (k-1))):=by
 have HLEN:=lY hlen;clear hlen;obtain⟨ad,rfl,hb,hc⟩:=h.2.1 hk0;have HSL:=lY h.2.2
 have HCL:Hid (∀ i,i < k->∀ w',Below w.heap.size w w'->w'.cell? (ad.add (i*3))=some (.bool (l.ng i))/\w'.cell? ⟨(ad.add (i*3)).block,(ad.add (i*3)).off+1,none⟩=some (.slice (l.A i) (l.n i) (l.c i))/\w'.cell? ⟨(ad.add (i*3)).block,(ad.add (i*3)).off+2,none⟩=some (.int .i64 (l.e i))):=lY (fun i hi w' h' =>
  ⟨(h'.cell (p:=ad.add (i*3)) (by rw[ao];exact hb)).trans (hc i hi).1,(h'.cell (p:=⟨(ad.add (i*3)).block,(ad.add (i*3)).off+1,none⟩) (by simp only[ao];exact hb)).trans (hc i hi).2.1,(h'.cell (p:=⟨(ad.add (i*3)).block,(ad.add (i*3)).off+2,none⟩) (by simp only[ao];exact hb)).trans (hc i hi).2.2⟩)
 clear h hc;have b0:=ag w (bJ (.bool false) (.slice none 0 0) (.int .i64 0));obtain⟨d0,d1,d2⟩:=HCL.out 0 hk0 _ b0;rw[Nat.zero_mul,show ad.add 0=ad from by simp[Addr.add]]at d0 d1 d2
 have hk0':(0:Int) < (k:Int):=by omega
 go_enter Tryz.func102,Tryz.ntmps102;go_wp2_with fail
 have L0:LB w ((w.alloc (bJ (.bool false) (.slice none 0 0) (.int .i64 0))).alloc (bJ (.bool (l.ng 0)) (.slice (l.A 0) (l.n 0) (l.c 0)) (.int .i64 (l.e 0)))) w.heap.size (w.heap.size+1) l 0:=by
  have k2:=KC.made 24 (w.alloc (bJ (.bool false) (.slice none 0 0) (.int .i64 0))) #[.bool (l.ng 0),.slice (l.A 0) (l.n 0) (l.c 0),.int .i64 (l.e 0)];rw[show(w.alloc (bJ (.bool false) (.slice none 0 0) (.int .i64 0))).heap.size=w.heap.size+1 by simp]at k2;exact⟨aB b0 (ag _ _),(KC.made 24 w zd).adv (ag _ _),k2,by omega,by omega⟩
 generalize(w.alloc (bJ (.bool false) (.slice none 0 0) (.int .i64 0))).alloc (bJ (.bool (l.ng 0)) (.slice (l.A 0) (l.n 0) (l.c 0)) (.int .i64 (l.e 0)))=w1 at *;clear d0 d1 d2 b0
 go_loopw [6] (fun s6q wr=>∃ j:Nat,j+1<=k/\s6q=.int .i64 ((j+1:Nat):Int)/\LB w wr w.heap.size (w.heap.size+1) l (fH l most j)) (fun s6q _=>k-(intOf s6q).toNat)
 case atStart=>exact⟨0,by omega,rfl,L0⟩
 case round =>
  clear L0;obtain⟨j,hj,rfl,LR⟩:=hrel;obtain⟨I,hI⟩:∃ I:Nat,I=j+1:=⟨_,rfl⟩;rw[← hI]
  have hI1:1<=I:=by omega
  by_cases hlt:I < k
  . have hlt':(I:Int) < (k:Int):=by omega
    have hI0:(0:Int)<=(I:Int):=by omega
    have HBJ:=lY (show fH l most I=if iU l most I (fH l most j) then I else fH l most j by rw[hI,fH]);have hjb:=As l most j;generalize fH l most j=b at *
    have hbk:b < k:=by omega
    have f1:=HLEN.out I hlt;have f2:=HLEN.out b hbk
    have CM:Hid (∀ w',Below w.heap.size w w'->Calls mF 25 #[aP (l.ng I) (l.A I) (l.n I) (l.c I) (l.e I),aP (l.ng b) (l.A b) (l.n b) (l.c b) (l.e b)] w' (vx w' (oI l I b) (aj (l.ng I) (l.n I) (l.x I) (l.e I) && aj (l.ng b) (l.n b) (l.x b) (l.e b)))):=lY (fun w' h' =>
     lP (l.ng I) (l.ng b) (l.A I) (l.A b) (l.n I) (l.c I) (l.n b) (l.c b) (l.x I) (l.x b) (l.e I) (l.e b) w' ((HSL.out I hlt).below h') ((HSL.out b hbk).below h') f1 f2)
    have HB1:=lY (show iU l most I b=if most then decide (0 < oI l I b) else decide (oI l I b < 0) from rfl);generalize oI l I b=z at *;generalize(aj (l.ng I) (l.n I) (l.x I) (l.e I) && aj (l.ng b) (l.n b) (l.x b) (l.e b))=ok at *;generalize iU l most I b=bt at *
    have HC:Hid (∀ w',LB w w' w.heap.size (w.heap.size+1) l b->(w'.cell? (ad.add (I*3))=some (.bool (l.ng I))/\w'.cell? ⟨(ad.add (I*3)).block,(ad.add (I*3)).off+1,none⟩=some (.slice (l.A I) (l.n I) (l.c I))/\w'.cell? ⟨(ad.add (I*3)).block,(ad.add (I*3)).off+2,none⟩=some (.int .i64 (l.e I))) /\
     C3 w' (w.heap.size+1) (.bool (l.ng b)) (.slice (l.A b) (l.n b) (l.c b)) (.int .i64 (l.e b))):=lY (fun w' h' =>
     ⟨HCL.out I hlt w' h'.bel,h'.kb.c3⟩)
    have LD:=LR.adv (Below.refl _ wr).drew;have X1:=HC.out _ LD;clear hI hjb;go_wp2_with fail
    go_region_held3 (fun w'=>(w'.cell? (ad.add (I*3))=some (.bool (l.ng I))/\w'.cell? ⟨(ad.add (I*3)).block,(ad.add (I*3)).off+1,none⟩=some (.slice (l.A I) (l.n I) (l.c I))/\w'.cell? ⟨(ad.add (I*3)).block,(ad.add (I*3)).off+2,none⟩=some (.int .i64 (l.e I))) /\
     C3 w' (w.heap.size+1) (.bool (l.ng b)) (.slice (l.A b) (l.n b) (l.c b)) (.int .i64 (l.e b)))
     (first | exact X1 | exact HC.out _ L2)
     (first | (go_at_call 25;refine(CM.out _ LD.bel).mono ?_;rintro e' w2 ⟨rfl,b2⟩;have L2:=LD.adv b2))
    clear X1 LD LR b2;obtain⟨⟨a0,a1,a2⟩,c0,c1,c2⟩:=HC.out _ L2;obtain⟨q0,q1,q2⟩:=L2.kb.f3
    have hwI:IntKind.i64.wrap ((I:Int)+1)=((I+1:Nat):Int):=by rw[aE (by omega) (by omega)];omega
    cases bt
    . have HB2:=lY (HBJ.out.trans (if_neg (by decide)))
      clear HBJ;cases most
      . have hz:decide (z < 0)=false:=by simpa using HB1.out.symm
        clear HB1;go_wp2_with fail;go_roundw
        case rel=>exact⟨I,by omega,by go_num,by rw[HB2.out];exact L2⟩
        case measure=>simp[intOf];omega
      . have hz:decide (0 < z)=false:=by simpa using HB1.out.symm
        clear HB1;go_wp2_with fail;go_roundw
        case rel=>exact⟨I,by omega,by go_num,by rw[HB2.out];exact L2⟩
        case measure=>simp[intOf];omega
    . have HB2:=lY (HBJ.out.trans (if_pos rfl))
      have L3:=L2.put I;clear HBJ;cases most
      . have hz:decide (z < 0)=true:=by simpa using HB1.out.symm
        clear HB1;go_wp2_with fail;go_roundw
        case rel=>exact⟨I,by omega,by go_num,by rw[HB2.out];exact L3⟩
        case measure=>simp[intOf];omega
      . have hz:decide (0 < z)=true:=by simpa using HB1.out.symm
        clear HB1;go_wp2_with fail;go_roundw
        case rel=>exact⟨I,by omega,by go_num,by rw[HB2.out];exact L3⟩
        case measure=>simp[intOf];omega
  . obtain rfl:I=k:=by omega
    obtain rfl:j=I-1:=by omega
    have hlt':¬ (I:Int) < (I:Int):=by omega
    clear hI;generalize fH l most (I-1)=b at *;obtain⟨c0,c1,c2⟩:=LR.kb.c3;have kP:=LR.kr.put3 (.bool (l.ng b)) (.slice (l.A b) (l.n b) (l.c b)) (.int .i64 (l.e b));have bP:=ct LR.bel (aZ wr w.heap.size (.bool (l.ng b)) (.slice (l.A b) (l.n b) (l.c b)) (.int .i64 (l.e b))) (Nat.le_refl _);obtain⟨r0,r1,r2⟩:=LR.kr.c3;obtain⟨q0,q1,q2⟩:=LR.kr.f3;go_wp2_with fail;exact bodyPost_ret (v:=aP (l.ng b) (l.A b) (l.n b) (l.c b) (l.e b)) (by simp[results,Tryz.results102,go_sem,r0,r1,r2]) rfl ⟨rfl,bP⟩
section
variable {TW:TypeId}
def cB (r s:DR):Int:=gh (r.ok && s.ok) r.neg s.neg r.m s.m r.e s.e
def cN (r s:DR):Bool:=decide (cB r s < 0)
theorem qi (a b:Nat):cQ a b=- cQ b a:=by
 rcases Nat.lt_trichotomy a b with h | h | h
 . rw[dn h,cO h]
 . subst h;rw[eA];rfl
 . rw[dn h,cO h];rfl
theorem kn (r s:DR):cB r s=- cB s r:=by
 unfold cB gh;rw[Bool.and_comm];cases s.ok && r.ok
 . rfl
 . simp only[if_true]
   unfold fa dx;rw[qi (cF r.m r.e s.e)]
   cases r.neg <;> cases s.neg <;> simp
theorem pV (w:World)(ha:aC w A n c r)(hb:aC w B m d s):
 Calls mF 113 #[aP r.neg A n c r.e,aP s.neg B m d s.e] w fun o w'=>o=.returned (.bool (cN r s))/\Below w.heap.size w w':=by
 obtain⟨x,a1,a2,a3,a4⟩:=ha;obtain⟨y,b1,b2,b3,b4⟩:=hb
 have:=jj r.neg s.neg A B n c m d x y r.e s.e w a1 b1 a2 b2
 unfold cN cB;rw[a3,a4,b3,b4];exact this
def aF (b:Bool)(r s:DR):DR:=if b then r else s
def dy (p:Int)(bad:Bool)(lo hi lo' hi':DR):SRes:=if dL p bad lo hi lo' hi' then SRes.no else⟨false,aF (cN lo' lo) lo' lo,aF (cN hi hi') hi' hi⟩
abbrev zg (w:World)(g:Nat)(a b c:Value):World:=((w.setCell ⟨g,3,none⟩ a).setCell ⟨g,4,none⟩ b).setCell ⟨g,5,none⟩ c
theorem nW (w:World)(g:Nat)(a b c:Value):az w (zg w g a b c) g:=(((az.refl w g).set_ 3 a).set_ 4 b).set_ 5 c
theorem tg {T:TypeId}{g:Nat}{a b c d e f:Value}(h:KC T w g #[a,b,c,d,e,f])(x y z:Value):KC T (put3 w g x y z) g #[x,y,z,d,e,f]:=by
 obtain⟨h1,h2⟩:=h;refine⟨?_,by simpa [put3,oM] using h2⟩
 simp[oM,Array.getElem?_modify,h1]
theorem ti {T:TypeId}{g:Nat}{a b c d e f:Value}(h:KC T w g #[a,b,c,d,e,f])(x y z:Value):KC T (zg w g x y z) g #[a,b,c,x,y,z]:=by
 obtain⟨h1,h2⟩:=h;refine⟨?_,by simpa [zg,oM] using h2⟩
 simp[oM,Array.getElem?_modify,h1]
theorem jk {lo hi lo' hi':DR}{A' B':OA}{n' c' m' d':Nat}(g:Nat)(p:Int)(bad:Bool)(w:World)(hW:Wk TW w g p bad)(ha:aC w A n c lo)(hb:aC w B m d hi)(ha':aC w A' n' c' lo')(hb':aC w B' m' d' hi'):
 Calls mF 62 #[.pointer (some ⟨g,0,none⟩),aG lo.neg A n c lo.e hi.neg B m d hi.e,aG lo'.neg A' n' c' lo'.e hi'.neg B' m' d' hi'.e] w (ap TW w g p (dy p bad lo hi lo' hi')):=by
 have S:=yB hW (.bool lo.neg) (.slice A n c) (.int .i64 lo.e) (.bool hi.neg) (.slice B m d) (.int .i64 hi.e) (.bool lo'.neg) (.slice A' n' c') (.int .i64 lo'.e) (.bool hi'.neg) (.slice B' m' d') (.int .i64 hi'.e);have TK:=vI g p bad _ S.W (ha.wk hW S.O) (hb.wk hW S.O) (ha'.wk hW S.O) (hb'.wk hW S.O);rw[show(((w.alloc (ce (.bool lo.neg) (.slice A n c) (.int .i64 lo.e) (.bool hi.neg) (.slice B m d) (.int .i64 hi.e))).alloc (ce (.bool lo'.neg) (.slice A' n' c') (.int .i64 lo'.e) (.bool hi'.neg) (.slice B' m' d') (.int .i64 hi'.e))).alloc z6).heap.size=w.heap.size+1+1+1 by simp]at TK;have TKH:=lY TK;clear TK;have k0:=S.ks.2.2.1.1;obtain⟨k0_0,k0_1,k0_2,k0_3,k0_4,k0_5⟩:=k0.c6;have k0l:=k0.2;clear k0;have k1:=S.ks.2.1.1;obtain⟨k1_0,k1_1,k1_2,k1_3,k1_4,k1_5⟩:=k1.c6;have k1l:=k1.2;clear k1;go_enter Tryz.func62,Tryz.ntmps62;go_wp2_with fail;refine TKH.out.mono ?_;clear TKH k0_0 k0_1 k0_2 k0_3 k0_4 k0_5 k0l k1_0 k1_1 k1_2 k1_3 k1_4 k1_5 k1l;generalize((w.alloc (ce (.bool lo.neg) (.slice A n c) (.int .i64 lo.e) (.bool hi.neg) (.slice B m d) (.int .i64 hi.e))).alloc (ce (.bool lo'.neg) (.slice A' n' c') (.int .i64 lo'.e) (.bool hi'.neg) (.slice B' m' d') (.int .i64 hi'.e))).alloc z6=w1 at *;rintro e' w2 ⟨rfl,hW2,o2⟩;replace S:=S.only o2 hW2;clear o2 hW2;obtain⟨bo,hbo⟩:∃ b:Bool,Hid (dL p bad lo hi lo' hi'=b):=⟨_,lY rfl⟩;rw[hbo.out]at S;rw[hbo.out];cases bo
 rotate_left
 . have HT:Hid (dy p bad lo hi lo' hi'=SRes.no):=lY (by unfold dy;rw[hbo.out];rfl)
   have kR:=S.ks.1.1;obtain⟨s0,s1,s2,s3q,s4,s5⟩:=kR.c6;obtain⟨rf0,rf1,rf2,rf3,rf4,rf5⟩:=kR.f6;go_wp2_with fail;rw[HT.out];obtain⟨q1,q2,q3,q4⟩:=S.give (lo:=DR.zero) (hi:=DR.zero) (aq _) (aq _) kR (by omega);exact bodyPost_ret (v:=aG false none 0 0 0 false none 0 0 0) (by simp[results,ou,go_sem,s0,s1,s2,s3q,s4,s5]) rfl ⟨none,0,0,none,0,0,rfl,q1,q2,q3,q4⟩
 . skip
   obtain⟨hbad,hp,hR,hR'⟩:=eB hbo.out;have HT:Hid (dy p bad lo hi lo' hi'=⟨false,aF (cN lo' lo) lo' lo,aF (cN hi hi') hi' hi⟩):=lY (by unfold dy;rw[hbo.out];rfl);have HL:Hid (∀ w',az w w' g->Calls mF 113 #[aP lo'.neg A' n' c' lo'.e,aP lo.neg A n c lo.e] w' fun o w2=>o=.returned (.bool (cN lo' lo))/\Below w'.heap.size w' w2):=lY (fun w' o=>pV w' (ha'.wk hW o) (ha.wk hW o));have HH:Hid (∀ w',az w w' g->Calls mF 113 #[aP hi.neg B m d hi.e,aP hi'.neg B' m' d' hi'.e] w' fun o w2=>o=.returned (.bool (cN hi hi'))/\Below w'.heap.size w' w2):=lY (fun w' o=>pV w' (hb.wk hW o) (hb'.wk hW o));generalize cN lo' lo=c1 at *;generalize cN hi hi'=c2 at *;clear hbo hbad;have k2:=S.ks.2.2.1.1;obtain⟨k2_0,k2_1,k2_2,k2_3,k2_4,k2_5⟩:=k2.c6;have k2l:=k2.2;clear k2;have k3:=S.ks.2.1.1;obtain⟨k3_0,k3_1,k3_2,k3_3,k3_4,k3_5⟩:=k3.c6;have k3l:=k3.2;clear k3;go_wp2_with fail;refine(HL.out _ S.O).mono ?_;rintro e' w3 ⟨rfl,b3⟩;replace S:=S.below b3;clear b3 k2_0 k2_1 k2_2 k2_3 k2_4 k2_5 k2l k3_0 k3_1 k3_2 k3_3 k3_4 k3_5 k3l;cases c1
   . cases c2
     . skip
       have k4:=S.ks.2.2.1.1;obtain⟨k4_0,k4_1,k4_2,k4_3,k4_4,k4_5⟩:=k4.c6;obtain⟨k4f0,k4f1,k4f2,k4f3,k4f4,k4f5⟩:=k4.f6;have k4l:=k4.2;clear k4;have k5:=S.ks.2.1.1;obtain⟨k5_0,k5_1,k5_2,k5_3,k5_4,k5_5⟩:=k5.c6;have k5l:=k5.2;clear k5;go_wp2_with fail;refine(HH.out _ S.O).mono ?_;rintro e' w5 ⟨rfl,b5⟩;replace S:=S.below b5;clear b5 k4_0 k4_1 k4_2 k4_3 k4_4 k4_5 k4f0 k4f1 k4f2 k4f3 k4f4 k4f5 k4l k5_0 k5_1 k5_2 k5_3 k5_4 k5_5 k5l;have k6:=S.ks.2.2.1.1;obtain⟨k6_0,k6_1,k6_2,k6_3,k6_4,k6_5⟩:=k6.c6;have k6l:=k6.2;clear k6;have kR:=S.ks.1.1;obtain⟨s0,s1,s2,s3q,s4,s5⟩:=kR.c6;obtain⟨rf0,rf1,rf2,rf3,rf4,rf5⟩:=kR.f6;go_wp2_with fail;rw[HT.out];obtain⟨q1,q2,q3,q4⟩:=S.give (lo:=lo) (hi:=hi) ((ha.wk hW S.O).num hR.l) ((hb.wk hW S.O).num hR.h) kR (by omega);exact bodyPost_ret (v:=aG lo.neg A n c lo.e hi.neg B m d hi.e) (by simp[results,ou,go_sem,s0,s1,s2,s3q,s4,s5]) rfl ⟨A,n,c,B,m,d,rfl,q1,q2,q3,q4⟩
     . skip
       have k7:=S.ks.2.2.1.1;obtain⟨k7_0,k7_1,k7_2,k7_3,k7_4,k7_5⟩:=k7.c6;obtain⟨k7f0,k7f1,k7f2,k7f3,k7f4,k7f5⟩:=k7.f6;have k7l:=k7.2;clear k7;have k8:=S.ks.2.1.1;obtain⟨k8_0,k8_1,k8_2,k8_3,k8_4,k8_5⟩:=k8.c6;have k8l:=k8.2;clear k8;go_wp2_with fail;refine(HH.out _ S.O).mono ?_;rintro e' w5 ⟨rfl,b5⟩;replace S:=S.below b5;clear b5 k7_0 k7_1 k7_2 k7_3 k7_4 k7_5 k7f0 k7f1 k7f2 k7f3 k7f4 k7f5 k7l k8_0 k8_1 k8_2 k8_3 k8_4 k8_5 k8l;have k9:=S.ks.2.2.1.1;obtain⟨k9_0,k9_1,k9_2,k9_3,k9_4,k9_5⟩:=k9.c6;obtain⟨k9f0,k9f1,k9f2,k9f3,k9f4,k9f5⟩:=k9.f6;have k9l:=k9.2;clear k9;have k10:=S.ks.2.1.1;obtain⟨k10_0,k10_1,k10_2,k10_3,k10_4,k10_5⟩:=k10.c6;have k10l:=k10.2;clear k10;go_upto_region 7 with fail;clear k9_0 k9_1 k9_2 k9_3 k9_4 k9_5 k9f0 k9f1 k9f2 k9f3 k9f4 k9f5 k9l k10_0 k10_1 k10_2 k10_3 k10_4 k10_5 k10l;have o:az w5 (((w5.setCell ⟨w.heap.size,3,none⟩ (.bool hi'.neg)).setCell ⟨w.heap.size,4,none⟩ (.slice B' m' d')).setCell ⟨w.heap.size,5,none⟩ (.int .i64 hi'.e)) w.heap.size:=nW w5 (w.heap.size) (.bool hi'.neg) (.slice B' m' d') (.int .i64 hi'.e);replace S:=(⟨S.hg,fV S.O o (by omega),S.W.only o (by have:=S.hg;omega),⟨⟨S.ks.1.1.only o (by omega),S.ks.1.2⟩,⟨S.ks.2.1.1.only o (by omega),S.ks.2.1.2⟩,⟨ti S.ks.2.2.1.1 (.bool hi'.neg) (.slice B' m' d') (.int .i64 hi'.e),S.ks.2.2.1.2⟩,trivial⟩,trivial⟩:St TW w g p false (((w5.setCell ⟨w.heap.size,3,none⟩ (.bool hi'.neg)).setCell ⟨w.heap.size,4,none⟩ (.slice B' m' d')).setCell ⟨w.heap.size,5,none⟩ (.int .i64 hi'.e)) [(31,w.heap.size+1+1,zs),(31,w.heap.size+1,s6 lo' A' n' c' hi' B' m' d'),(31,w.heap.size,s6 lo A n c hi' B' m' d')] []);clear o;generalize((w5.setCell ⟨w.heap.size,3,none⟩ (.bool hi'.neg)).setCell ⟨w.heap.size,4,none⟩ (.slice B' m' d')).setCell ⟨w.heap.size,5,none⟩ (.int .i64 hi'.e)=w6 at *;have k11:=S.ks.2.2.1.1;obtain⟨k11_0,k11_1,k11_2,k11_3,k11_4,k11_5⟩:=k11.c6;have k11l:=k11.2;clear k11;have kR:=S.ks.1.1;obtain⟨s0,s1,s2,s3q,s4,s5⟩:=kR.c6;obtain⟨rf0,rf1,rf2,rf3,rf4,rf5⟩:=kR.f6;go_wp2_with fail
       rw[HT.out];obtain⟨q1,q2,q3,q4⟩:=S.give (lo:=lo) (hi:=hi') ((ha.wk hW S.O).num hR.l) ((hb'.wk hW S.O).num hR'.h) kR (by omega);exact bodyPost_ret (v:=aG lo.neg A n c lo.e hi'.neg B' m' d' hi'.e) (by simp[results,ou,go_sem,s0,s1,s2,s3q,s4,s5]) rfl ⟨A,n,c,B',m',d',rfl,q1,q2,q3,q4⟩
   . cases c2
     . skip
       have k12:=S.ks.2.2.1.1;obtain⟨k12_0,k12_1,k12_2,k12_3,k12_4,k12_5⟩:=k12.c6;obtain⟨k12f0,k12f1,k12f2,k12f3,k12f4,k12f5⟩:=k12.f6;have k12l:=k12.2;clear k12;have k13:=S.ks.2.1.1;obtain⟨k13_0,k13_1,k13_2,k13_3,k13_4,k13_5⟩:=k13.c6;have k13l:=k13.2;clear k13;go_upto_region 5 with fail;clear k12_0 k12_1 k12_2 k12_3 k12_4 k12_5 k12f0 k12f1 k12f2 k12f3 k12f4 k12f5 k12l k13_0 k13_1 k13_2 k13_3 k13_4 k13_5 k13l;have o:az w3 (((w3.setCell ⟨w.heap.size,0,none⟩ (.bool lo'.neg)).setCell ⟨w.heap.size,1,none⟩ (.slice A' n' c')).setCell ⟨w.heap.size,2,none⟩ (.int .i64 lo'.e)) w.heap.size:=aZ w3 (w.heap.size) (.bool lo'.neg) (.slice A' n' c') (.int .i64 lo'.e);replace S:=(⟨S.hg,fV S.O o (by omega),S.W.only o (by have:=S.hg;omega),⟨⟨S.ks.1.1.only o (by omega),S.ks.1.2⟩,⟨S.ks.2.1.1.only o (by omega),S.ks.2.1.2⟩,⟨tg S.ks.2.2.1.1 (.bool lo'.neg) (.slice A' n' c') (.int .i64 lo'.e),S.ks.2.2.1.2⟩,trivial⟩,trivial⟩:St TW w g p false (((w3.setCell ⟨w.heap.size,0,none⟩ (.bool lo'.neg)).setCell ⟨w.heap.size,1,none⟩ (.slice A' n' c')).setCell ⟨w.heap.size,2,none⟩ (.int .i64 lo'.e)) [(31,w.heap.size+1+1,zs),(31,w.heap.size+1,s6 lo' A' n' c' hi' B' m' d'),(31,w.heap.size,s6 lo' A' n' c' hi B m d)] []);clear o;generalize((w3.setCell ⟨w.heap.size,0,none⟩ (.bool lo'.neg)).setCell ⟨w.heap.size,1,none⟩ (.slice A' n' c')).setCell ⟨w.heap.size,2,none⟩ (.int .i64 lo'.e)=w4 at *;have k14:=S.ks.2.2.1.1;obtain⟨k14_0,k14_1,k14_2,k14_3,k14_4,k14_5⟩:=k14.c6;have k14l:=k14.2;clear k14;have k15:=S.ks.2.1.1;obtain⟨k15_0,k15_1,k15_2,k15_3,k15_4,k15_5⟩:=k15.c6;have k15l:=k15.2;clear k15;go_wp2_with fail;refine(HH.out _ S.O).mono ?_;rintro e' w5 ⟨rfl,b5⟩;replace S:=S.below b5;clear b5 k14_0 k14_1 k14_2 k14_3 k14_4 k14_5 k14l k15_0 k15_1 k15_2 k15_3 k15_4 k15_5 k15l;have k16:=S.ks.2.2.1.1;obtain⟨k16_0,k16_1,k16_2,k16_3,k16_4,k16_5⟩:=k16.c6;have k16l:=k16.2;clear k16;have kR:=S.ks.1.1;obtain⟨s0,s1,s2,s3q,s4,s5⟩:=kR.c6;obtain⟨rf0,rf1,rf2,rf3,rf4,rf5⟩:=kR.f6;go_wp2_with fail;rw[HT.out];obtain⟨q1,q2,q3,q4⟩:=S.give (lo:=lo') (hi:=hi) ((ha'.wk hW S.O).num hR'.l) ((hb.wk hW S.O).num hR.h) kR (by omega)
       exact bodyPost_ret (v:=aG lo'.neg A' n' c' lo'.e hi.neg B m d hi.e) (by simp[results,ou,go_sem,s0,s1,s2,s3q,s4,s5]) rfl ⟨A',n',c',B,m,d,rfl,q1,q2,q3,q4⟩
     . skip
       have k17:=S.ks.2.2.1.1;obtain⟨k17_0,k17_1,k17_2,k17_3,k17_4,k17_5⟩:=k17.c6;obtain⟨k17f0,k17f1,k17f2,k17f3,k17f4,k17f5⟩:=k17.f6;have k17l:=k17.2;clear k17;have k18:=S.ks.2.1.1;obtain⟨k18_0,k18_1,k18_2,k18_3,k18_4,k18_5⟩:=k18.c6;have k18l:=k18.2;clear k18;go_upto_region 5 with fail;clear k17_0 k17_1 k17_2 k17_3 k17_4 k17_5 k17f0 k17f1 k17f2 k17f3 k17f4 k17f5 k17l k18_0 k18_1 k18_2 k18_3 k18_4 k18_5 k18l;have o:az w3 (((w3.setCell ⟨w.heap.size,0,none⟩ (.bool lo'.neg)).setCell ⟨w.heap.size,1,none⟩ (.slice A' n' c')).setCell ⟨w.heap.size,2,none⟩ (.int .i64 lo'.e)) w.heap.size:=aZ w3 (w.heap.size) (.bool lo'.neg) (.slice A' n' c') (.int .i64 lo'.e);replace S:=(⟨S.hg,fV S.O o (by omega),S.W.only o (by have:=S.hg;omega),⟨⟨S.ks.1.1.only o (by omega),S.ks.1.2⟩,⟨S.ks.2.1.1.only o (by omega),S.ks.2.1.2⟩,⟨tg S.ks.2.2.1.1 (.bool lo'.neg) (.slice A' n' c') (.int .i64 lo'.e),S.ks.2.2.1.2⟩,trivial⟩,trivial⟩:St TW w g p false (((w3.setCell ⟨w.heap.size,0,none⟩ (.bool lo'.neg)).setCell ⟨w.heap.size,1,none⟩ (.slice A' n' c')).setCell ⟨w.heap.size,2,none⟩ (.int .i64 lo'.e)) [(31,w.heap.size+1+1,zs),(31,w.heap.size+1,s6 lo' A' n' c' hi' B' m' d'),(31,w.heap.size,s6 lo' A' n' c' hi B m d)] []);clear o;generalize((w3.setCell ⟨w.heap.size,0,none⟩ (.bool lo'.neg)).setCell ⟨w.heap.size,1,none⟩ (.slice A' n' c')).setCell ⟨w.heap.size,2,none⟩ (.int .i64 lo'.e)=w4 at *;have k19:=S.ks.2.2.1.1;obtain⟨k19_0,k19_1,k19_2,k19_3,k19_4,k19_5⟩:=k19.c6;have k19l:=k19.2;clear k19;have k20:=S.ks.2.1.1;obtain⟨k20_0,k20_1,k20_2,k20_3,k20_4,k20_5⟩:=k20.c6;have k20l:=k20.2;clear k20;go_wp2_with fail;refine(HH.out _ S.O).mono ?_;rintro e' w5 ⟨rfl,b5⟩;replace S:=S.below b5;clear b5 k19_0 k19_1 k19_2 k19_3 k19_4 k19_5 k19l k20_0 k20_1 k20_2 k20_3 k20_4 k20_5 k20l;have k21:=S.ks.2.2.1.1;obtain⟨k21_0,k21_1,k21_2,k21_3,k21_4,k21_5⟩:=k21.c6;obtain⟨k21f0,k21f1,k21f2,k21f3,k21f4,k21f5⟩:=k21.f6;have k21l:=k21.2;clear k21;have k22:=S.ks.2.1.1;obtain⟨k22_0,k22_1,k22_2,k22_3,k22_4,k22_5⟩:=k22.c6;have k22l:=k22.2;clear k22
       go_upto_region 7 with fail;clear k21_0 k21_1 k21_2 k21_3 k21_4 k21_5 k21f0 k21f1 k21f2 k21f3 k21f4 k21f5 k21l k22_0 k22_1 k22_2 k22_3 k22_4 k22_5 k22l;have o:az w5 (((w5.setCell ⟨w.heap.size,3,none⟩ (.bool hi'.neg)).setCell ⟨w.heap.size,4,none⟩ (.slice B' m' d')).setCell ⟨w.heap.size,5,none⟩ (.int .i64 hi'.e)) w.heap.size:=nW w5 (w.heap.size) (.bool hi'.neg) (.slice B' m' d') (.int .i64 hi'.e);replace S:=(⟨S.hg,fV S.O o (by omega),S.W.only o (by have:=S.hg;omega),⟨⟨S.ks.1.1.only o (by omega),S.ks.1.2⟩,⟨S.ks.2.1.1.only o (by omega),S.ks.2.1.2⟩,⟨ti S.ks.2.2.1.1 (.bool hi'.neg) (.slice B' m' d') (.int .i64 hi'.e),S.ks.2.2.1.2⟩,trivial⟩,trivial⟩:St TW w g p false (((w5.setCell ⟨w.heap.size,3,none⟩ (.bool hi'.neg)).setCell ⟨w.heap.size,4,none⟩ (.slice B' m' d')).setCell ⟨w.heap.size,5,none⟩ (.int .i64 hi'.e)) [(31,w.heap.size+1+1,zs),(31,w.heap.size+1,s6 lo' A' n' c' hi' B' m' d'),(31,w.heap.size,s6 lo' A' n' c' hi' B' m' d')] []);clear o;generalize((w5.setCell ⟨w.heap.size,3,none⟩ (.bool hi'.neg)).setCell ⟨w.heap.size,4,none⟩ (.slice B' m' d')).setCell ⟨w.heap.size,5,none⟩ (.int .i64 hi'.e)=w6 at *;have k23:=S.ks.2.2.1.1;obtain⟨k23_0,k23_1,k23_2,k23_3,k23_4,k23_5⟩:=k23.c6;have k23l:=k23.2;clear k23;have kR:=S.ks.1.1;obtain⟨s0,s1,s2,s3q,s4,s5⟩:=kR.c6;obtain⟨rf0,rf1,rf2,rf3,rf4,rf5⟩:=kR.f6;go_wp2_with fail;rw[HT.out];obtain⟨q1,q2,q3,q4⟩:=S.give (lo:=lo') (hi:=hi') ((ha'.wk hW S.O).num hR'.l) ((hb'.wk hW S.O).num hR'.h) kR (by omega);exact bodyPost_ret (v:=aG lo'.neg A' n' c' lo'.e hi'.neg B' m' d' hi'.e) (by simp[results,ou,go_sem,s0,s1,s2,s3q,s4,s5]) rfl ⟨A',n',c',B',m',d',rfl,q1,q2,q3,q4⟩
end
def rK (w:World)(L:OA)(r s:DR)(A B:OA)(n c m d:Nat):Prop :=
 ∃ x y,(r.m=vs ai x n/\r.ok=aj r.neg n x r.e/\n<=400000)/\(s.m=vs ai y m/\s.ok=aj s.neg m y s.e/\m<=400000)/\Ls w L 2 2 (sP r.neg s.neg A B n m c d x y r.e s.e)
theorem rK.below {w':World}{L:OA}(h:rK w L r s A B n c m d)(b:Below w.heap.size w w'):rK w' L r s A B n c m d:=by
 obtain⟨x,y,h1,h2,h3⟩:=h;exact⟨x,y,h1,h2,h3.below b⟩
theorem rK.made (ha:aC w A n c r)(hb:aC w B m d s):rK (w.alloc (c6 r.neg s.neg A B n m c d r.e s.e)) (some ⟨w.heap.size,0,none⟩) r s A B n c m d:=by
 obtain⟨x,a1,a2,a3,a4⟩:=ha;obtain⟨y,b1,b2,b3,b4⟩:=hb;exact⟨x,y,⟨a3,a4,a2⟩,⟨b3,b4,b2⟩,BC _ _ _ _ _ _ _ _ x y _ _ w a1 b1⟩
theorem zK {L:OA}(most:Bool)(w:World)(h:rK w L r s A B n c m d)(hr:r.ok=true)(hs:s.ok=true):
 Calls mF 102 #[.slice L 2 2,.bool most] w (fg w (aF (if most then cN r s else cN s r) s r)):=by
 obtain⟨x,y,⟨a3,a4,a2⟩,⟨b3,b4,b2⟩,h3⟩:=h;refine(pS L 2 2 _ most w h3 (by omega) (by omega) (fun j hj=>?_)).mono ?_
 . have:j=0\/j=1:=by omega
   rcases this with rfl | rfl
   . exact a2
   . exact b2
 . rintro e w' ⟨rfl,b⟩
   have hz:oI (sP r.neg s.neg A B n m c d x y r.e s.e) 1 0=cB s r:=by unfold oI cB sP;rw[a3,a4,b3,b4];rfl
   have hB:fH (sP r.neg s.neg A B n m c d x y r.e s.e) most (2-1)=if (if most then cN r s else cN s r) then 1 else 0:=by
    show fH _ most 1=_
    unfold fH fH iU;rw[hz];cases most
    . rfl
    . have:decide (0 < cB s r)=cN r s:=by unfold cN;rw[kn r s];simp
      simp only[if_true,this]
   rw[hB];have ls0:=h3.2.2 0 (by omega);have ls1:=h3.2.2 1 (by omega);have P0:gR r.neg n x r.e:=aS (by rw[← a4];exact hr);have P1:gR s.neg m y s.e:=aS (by rw[← b4];exact hs);cases (if most then cN r s else cN s r)
   . refine⟨A,n,c,rfl,?_,b⟩
     unfold aF;rw[if_neg (by decide),a3];exact P0.num (Sl.below ls0 b)
   . refine⟨B,m,d,rfl,?_,b⟩
     unfold aF;rw[if_pos rfl,b3];exact P1.num (Sl.below ls1 b)
theorem xl {lo hi lo' hi':DR}{A' B':OA}{n' c' m' d':Nat}(g:Nat)(p:Int)(bad:Bool)(w:World)(hW:Wk 49 w g p bad)(ha:aC w A n c lo)(hb:aC w B m d hi)(ha':aC w A' n' c' lo')(hb':aC w B' m' d' hi'):
 Calls mF 105 #[.pointer (some ⟨g,0,none⟩),aG lo.neg A n c lo.e hi.neg B m d hi.e,aG lo'.neg A' n' c' lo'.e hi'.neg B' m' d' hi'.e] w (ap 49 w g p (dy p bad lo hi lo' hi')):=by
 have S:=yB hW (.bool lo.neg) (.slice A n c) (.int .i64 lo.e) (.bool hi.neg) (.slice B m d) (.int .i64 hi.e) (.bool lo'.neg) (.slice A' n' c') (.int .i64 lo'.e) (.bool hi'.neg) (.slice B' m' d') (.int .i64 hi'.e);have TK:=nD g p bad _ S.W (ha.wk hW S.O) (hb.wk hW S.O) (ha'.wk hW S.O) (hb'.wk hW S.O);rw[show(((w.alloc (ce (.bool lo.neg) (.slice A n c) (.int .i64 lo.e) (.bool hi.neg) (.slice B m d) (.int .i64 hi.e))).alloc (ce (.bool lo'.neg) (.slice A' n' c') (.int .i64 lo'.e) (.bool hi'.neg) (.slice B' m' d') (.int .i64 hi'.e))).alloc z6).heap.size=w.heap.size+1+1+1 by simp]at TK;have TKH:=lY TK;clear TK;have k0:=S.ks.2.2.1.1;obtain⟨k0_0,k0_1,k0_2,k0_3,k0_4,k0_5⟩:=k0.c6;have k0l:=k0.2;clear k0;have k1:=S.ks.2.1.1;obtain⟨k1_0,k1_1,k1_2,k1_3,k1_4,k1_5⟩:=k1.c6;have k1l:=k1.2;clear k1;go_enter Tryz.func105,Tryz.ntmps105;go_wp2_with fail;refine TKH.out.mono ?_;clear TKH k0_0 k0_1 k0_2 k0_3 k0_4 k0_5 k0l k1_0 k1_1 k1_2 k1_3 k1_4 k1_5 k1l;generalize((w.alloc (ce (.bool lo.neg) (.slice A n c) (.int .i64 lo.e) (.bool hi.neg) (.slice B m d) (.int .i64 hi.e))).alloc (ce (.bool lo'.neg) (.slice A' n' c') (.int .i64 lo'.e) (.bool hi'.neg) (.slice B' m' d') (.int .i64 hi'.e))).alloc z6=w1 at *;rintro e' w2 ⟨rfl,hW2,o2⟩;replace S:=S.only o2 hW2;clear o2 hW2;obtain⟨bo,hbo⟩:∃ b:Bool,Hid (dL p bad lo hi lo' hi'=b):=⟨_,lY rfl⟩;rw[hbo.out]at S;rw[hbo.out];cases bo
 rotate_left
 . have HT:Hid (dy p bad lo hi lo' hi'=SRes.no):=lY (by unfold dy;rw[hbo.out];rfl)
   have kR:=S.ks.1.1;obtain⟨s0,s1,s2,s3q,s4,s5⟩:=kR.c6;obtain⟨rf0,rf1,rf2,rf3,rf4,rf5⟩:=kR.f6;go_wp2_with fail;rw[HT.out];obtain⟨q1,q2,q3,q4⟩:=S.give (lo:=DR.zero) (hi:=DR.zero) (aq _) (aq _) kR (by omega);exact bodyPost_ret (v:=aG false none 0 0 0 false none 0 0 0) (by simp[results,oY,go_sem,s0,s1,s2,s3q,s4,s5]) rfl ⟨none,0,0,none,0,0,rfl,q1,q2,q3,q4⟩
 . skip
   obtain⟨hbad,hp,hR,hR'⟩:=eB hbo.out;have HT:Hid (dy p bad lo hi lo' hi'=⟨false,aF (cN lo' lo) lo' lo,aF (cN hi hi') hi' hi⟩):=lY (by unfold dy;rw[hbo.out];rfl);have HL:Hid (∀ w' L,rK w' L lo lo' A A' n c n' c'->Calls mF 102 #[.slice L 2 2,.bool false] w' (fg w' (aF (cN lo' lo) lo' lo))):=lY (fun w' L h=>zK false w' h hR.l hR'.l);have HH:Hid (∀ w' L,rK w' L hi hi' B B' m d m' d'->Calls mF 102 #[.slice L 2 2,.bool true] w' (fg w' (aF (cN hi hi') hi' hi))):=lY (fun w' L h=>zK true w' h hR.h hR'.h);generalize aF (cN lo' lo) lo' lo=r1 at *;generalize aF (cN hi hi') hi' hi=r2 at *;clear hbo hbad;have HC:Hid (∀ w',St 49 w g p false w' [(31,w.heap.size+1+1,zs),(31,w.heap.size+1,s6 lo' A' n' c' hi' B' m' d'),(31,w.heap.size,s6 lo A n c hi B m d)] []->D6 w' (w.heap.size) lo A n c hi B m d/\D6 w' (w.heap.size+1) lo' A' n' c' hi' B' m' d'):=lY (fun w' h=>⟨h.ks.2.2.1.1.c6,h.ks.2.1.1.c6⟩);have SD:=S.drew;have hz:w.heap.size<=w2.heap.size:=S.size;have EL:=S.below (ag w2 (.cells #[.bool lo.neg,.slice A n c,.int .i64 lo.e,.bool lo'.neg,.slice A' n' c',.int .i64 lo'.e] 24));have ELH:=EL.below (ag (w2.alloc (.cells #[.bool lo.neg,.slice A n c,.int .i64 lo.e,.bool lo'.neg,.slice A' n' c',.int .i64 lo'.e] 24)) (.cells #[.bool hi.neg,.slice B m d,.int .i64 hi.e,.bool hi'.neg,.slice B' m' d',.int .i64 hi'.e] 24));have EH:=S.below (ag w2 (.cells #[.bool hi.neg,.slice B m d,.int .i64 hi.e,.bool hi'.neg,.slice B' m' d',.int .i64 hi'.e] 24));have EHL:=EH.below (ag (w2.alloc (.cells #[.bool hi.neg,.slice B m d,.int .i64 hi.e,.bool hi'.neg,.slice B' m' d',.int .i64 hi'.e] 24)) (.cells #[.bool lo.neg,.slice A n c,.int .i64 lo.e,.bool lo'.neg,.slice A' n' c',.int .i64 lo'.e] 24));have SL:=EL.drew;have SLH:=ELH.drew;have SH:=EH.drew;have SHL:=EHL.drew;have LL:rK (w2.alloc (.cells #[.bool lo.neg,.slice A n c,.int .i64 lo.e,.bool lo'.neg,.slice A' n' c',.int .i64 lo'.e] 24)).drew (some ⟨w2.heap.size,0,none⟩) lo lo' A A' n c n' c':=(rK.made (ha.wk hW S.O) (ha'.wk hW S.O)).below (Below.refl _ _).drew
   have LLa:rK ((w2.alloc (.cells #[.bool lo.neg,.slice A n c,.int .i64 lo.e,.bool lo'.neg,.slice A' n' c',.int .i64 lo'.e] 24)).alloc (.cells #[.bool hi.neg,.slice B m d,.int .i64 hi.e,.bool hi'.neg,.slice B' m' d',.int .i64 hi'.e] 24)).drew (some ⟨w2.heap.size,0,none⟩) lo lo' A A' n c n' c':=((rK.made (ha.wk hW S.O) (ha'.wk hW S.O)).below (ag (w2.alloc (.cells #[.bool lo.neg,.slice A n c,.int .i64 lo.e,.bool lo'.neg,.slice A' n' c',.int .i64 lo'.e] 24)) (.cells #[.bool hi.neg,.slice B m d,.int .i64 hi.e,.bool hi'.neg,.slice B' m' d',.int .i64 hi'.e] 24))).below (Below.refl _ _).drew
   have LH:rK ((w2.alloc (.cells #[.bool lo.neg,.slice A n c,.int .i64 lo.e,.bool lo'.neg,.slice A' n' c',.int .i64 lo'.e] 24)).alloc (.cells #[.bool hi.neg,.slice B m d,.int .i64 hi.e,.bool hi'.neg,.slice B' m' d',.int .i64 hi'.e] 24)).drew (some ⟨w2.heap.size+1,0,none⟩) hi hi' B B' m d m' d':=by
    have:=rK.made (hb.wk hW EL.O) (hb'.wk hW EL.O)
    rw[show(w2.alloc (.cells #[.bool lo.neg,.slice A n c,.int .i64 lo.e,.bool lo'.neg,.slice A' n' c',.int .i64 lo'.e] 24)).heap.size=w2.heap.size+1 by simp]at this;exact this.below (Below.refl _ _).drew
   have LLh:rK ((w2.alloc (.cells #[.bool hi.neg,.slice B m d,.int .i64 hi.e,.bool hi'.neg,.slice B' m' d',.int .i64 hi'.e] 24)).alloc (.cells #[.bool lo.neg,.slice A n c,.int .i64 lo.e,.bool lo'.neg,.slice A' n' c',.int .i64 lo'.e] 24)).drew (some ⟨w2.heap.size+1,0,none⟩) lo lo' A A' n c n' c':=by
    have:=rK.made (ha.wk hW EH.O) (ha'.wk hW EH.O)
    rw[show(w2.alloc (.cells #[.bool hi.neg,.slice B m d,.int .i64 hi.e,.bool hi'.neg,.slice B' m' d',.int .i64 hi'.e] 24)).heap.size=w2.heap.size+1 by simp]at this;exact this.below (Below.refl _ _).drew
   have LHh:rK ((w2.alloc (.cells #[.bool hi.neg,.slice B m d,.int .i64 hi.e,.bool hi'.neg,.slice B' m' d',.int .i64 hi'.e] 24)).alloc (.cells #[.bool lo.neg,.slice A n c,.int .i64 lo.e,.bool lo'.neg,.slice A' n' c',.int .i64 lo'.e] 24)).drew (some ⟨w2.heap.size,0,none⟩) hi hi' B B' m d m' d':=((rK.made (hb.wk hW S.O) (hb'.wk hW S.O)).below (ag (w2.alloc (.cells #[.bool hi.neg,.slice B m d,.int .i64 hi.e,.bool hi'.neg,.slice B' m' d',.int .i64 hi'.e] 24)) (.cells #[.bool lo.neg,.slice A n c,.int .i64 lo.e,.bool lo'.neg,.slice A' n' c',.int .i64 lo'.e] 24))).below (Below.refl _ _).drew;clear EL ELH EH EHL
   have HCk:Hid (∀ w' w9:World,St 49 w g p false w' [(31,w.heap.size+1+1,zs),(31,w.heap.size+1,s6 lo' A' n' c' hi' B' m' d'),(31,w.heap.size,s6 lo A n c hi B m d)] []->az w' w9 (w.heap.size+1+1)->D6 w9 (w.heap.size) lo A n c hi B m d/\D6 w9 (w.heap.size+1) lo' A' n' c' hi' B' m' d'):=lY (fun w' w9 h o=>by
    have ka:=h.ks.2.2.1.1.only o (by omega);have kb:=h.ks.2.1.1.only o (by omega)
    exact⟨ka.c6,kb.c6⟩)
   have X1:=HC.out _ SD;clear S;go_upto_region 3 with fail
   go_region_held3 (fun w'=>D6 w' (w.heap.size) lo A n c hi B m d/\D6 w' (w.heap.size+1) lo' A' n' c' hi' B' m' d')
    (first | with_reducible exact HC.out _ S2 | with_reducible exact HCk.out _ _ S2 (aK _ _ _ _ _ _ _ _) | with_reducible exact X1 | with_reducible exact HC.out _ SL | with_reducible exact HC.out _ SLH | with_reducible exact HC.out _ SH | with_reducible exact HC.out _ SHL | with_reducible exact HC.out _ (SHL.below b1) | with_reducible exact HC.out _ (SL.below b1) | with_reducible exact HC.out _ (SLH.below b1) | with_reducible exact HC.out _ ((SL.below b1).below (ag _ _)))
    (first
     | (go_at_call_of 102 (Value.bool false);refine(HL.out _ _ (by first | with_reducible exact LL | with_reducible exact LLa | with_reducible exact LLh)).mono ?_;rintro e' v1 ⟨A1,p1,c1,rfl,n1,b1⟩)
     | (go_at_call_of 102 (Value.bool true);refine(HH.out _ _ (by first | with_reducible exact LH.below b1 | with_reducible exact LHh.below b1 | with_reducible exact rK.made (hb.wk hW (SL.below b1).O) (hb'.wk hW (SL.below b1).O))).mono ?_;rintro e' v2 ⟨A2,p2,c2,rfl,n2,b2⟩;(first | (have S2:=((SL.below b1).below (ag v1 (.cells #[.bool hi.neg,.slice B m d,.int .i64 hi.e,.bool hi'.neg,.slice B' m' d',.int .i64 hi'.e] 24))).below b2;have n1b:=(n1.below (ag v1 (.cells #[.bool hi.neg,.slice B m d,.int .i64 hi.e,.bool hi'.neg,.slice B' m' d',.int .i64 hi'.e] 24))).below b2) | (have S2:=(SLH.below b1).below b2;have n1b:=n1.below b2) | (have S2:=(SHL.below b1).below b2;have n1b:=n1.below b2));have kR:=S2.ks.1.1;obtain⟨s0,s1,s2,s3q,s4,s5⟩:=kR.c6;obtain⟨rf0,rf1,rf2,rf3,rf4,rf5⟩:=kR.f6))
   all_goals (
    go_wp2_with fail;rw[HT.out];obtain⟨q1,q2,q3,q4⟩:=S2.give (lo:=r1) (hi:=r2) n1b n2 kR (by omega)
    exact bodyPost_ret (v:=aG r1.neg A1 p1 c1 r1.e r2.neg A2 p2 c2 r2.e) (by simp[results,oY,go_sem,s0,s1,s2,s3q,s4,s5]) rfl ⟨A1,p1,c1,A2,p2,c2,rfl,q1,q2,q3,q4⟩)
end Go.Proofs.YtmbmohibpkepdaaGreatDoor
