/-
 volvellelaw05: calc, awake.
-/
import Derived.Test.YtmbmohibpkepdaaGreatDoorPlEGSp2
import Derived.Test.YtmbmohibpkepdaaGreatDoorPlEGEx11
namespace Go.Proofs.YtmbmohibpkepdaaGreatDoor
open Go.RowKit
theorem calc5_any (p:Int) (w:World):Calls Tryz.prog 12 #[.int .i64 p] w (fun e w'=>e=.returned (.pointer (some ⟨w.heap.size,0,none⟩))∧Wk 38 w' w.heap.size p false∧Below w.heap.size w w'):=by
 go_enter Tryz.func12,Tryz.ntmps12
 go_wp2_with fail
 go_ret
 exact ⟨rfl,⟨heap_alloc_new w _,by simp⟩,alloc_bel w _⟩
theorem rv_cmp5 {r s:DR} (hr:Pl r) (hs:Pl s) (h:rv r≤rv s):cmpI2 r s≤0:=by
 have U:=pl_up hr
 have V:=pl_up hs
 unfold cmpI2 cmpD
 rw [hr.ok,hs.ok]
 exact ord_le (g:=-300000) U.z V.z (.inr U.e) (.inr V.e) ((rv_le (.inr U.e) (.inr V.e)).1 h)
theorem ex1_b:exQ 1 2=5/2∧tmQ 1 2=1/2∧8/3≤exQ 1 3:=by
 have t1:=tmQ_succ 1 0
 have t2:=tmQ_succ 1 1
 have t3:=tmQ_succ 1 2
 have t0:tmQ 1 0=1:=rfl
 have c0:((0:Nat):Rat)=0:=rfl
 have c1:((1:Nat):Rat)=1:=rfl
 have c2:((2:Nat):Rat)=2:=rfl
 rw [c0,t0] at t1
 rw [c1] at t2
 rw [c2] at t3
 simp only [Nat.zero_add] at t1 t2 t3
 have e2:exQ 1 2=tmQ 1 0+tmQ 1 (0+1)+tmQ 1 (1+1):=rfl
 have e3:exQ 1 3=exQ 1 2+tmQ 1 (2+1):=rfl
 simp only [Nat.zero_add] at e2 e3
 refine ⟨by grind,by grind,by grind⟩
theorem ex1_3 (n:Nat):exQ 1 n≤3:=by
 obtain ⟨e,t,_⟩:=ex1_b
 have h0:(0:Rat)≤1:=by decide
 rcases Nat.lt_or_ge n 2 with h | h
 · have:=exQ_mono h0 (show n≤2 by omega)
   grind
 · have h1:=ex_tail2 h0 (K:=2) (by show (2:Rat)*1≤2;rw [Rat.mul_one];exact Rat.le_refl) 0 (n-2)
   have h2:=tmQ_nonneg h0 n
   rw [show 2+0+(n-2)=n by omega,show 2+0=2 from rfl,e,t] at h1
   generalize exQ 1 n=a at *
   generalize tmQ 1 n=b at *
   have e3:(5:Rat)/2+1/2=3:=by grind
   rw [e3] at h1
   grind
theorem aw5_q {X:Int} {e:SRes} {d:DR} (EO:EnOk 16 X e (exQ 1) (exQ 1) true) (hX:X≤199000) (hX0:64≤X) (hd:Sq 64 ⟨false,d,d⟩) (hd2:rv d=2) :
 (rightI e.lo e.hi=true∧(wid2 e.hi (negI e.lo)).ok=true∧cmpI2 (wid2 e.hi (negI e.lo)) ⟨true,false,1,-10⟩≤0)∧((subS 16 false e.lo e.hi d d).bad=false∧SGood (subS 16 false e.lo e.hi d d)∧(subS 16 false e.lo e.hi d d).lo.neg=false∧0 < (subS 16 false e.lo e.hi d d).lo.m):=by
 have R:=EO.rel rfl
 have h1:rv e.lo≤3:=EO.hl.meet (Hl.of (a:=0) (b:=3) (N:=0) fun n _=>⟨by have:=exQ_one (show (0:Rat)≤1 by decide) n;grind,ex1_3 n⟩) (Nul.zero.eq fun n=>by grind)
 have h2:8/3≤rv e.hi:=(Hl.of (a:=8/3) (b:=3) (N:=3) fun n hn=>⟨Rat.le_trans ex1_b.2.2 (exQ_mono (by decide) hn),ex1_3 n⟩:Hl (8/3) 3 (exQ 1)).meet EO.hl (Nul.zero.eq fun n=>by grind)
 have N:=nar_q (P:=16) (by omega) EO.q R hX (by omega)
 have hu:uP 16*32768=1:=by
  have h2:uP 16*((2^(16-1):Nat):Rat)=1:=uP_mul (by omega)
  exact h2
 have hup:=uP_pos 16
 have hv:=N.v
 have hn0:=sz_nonneg (wid2 e.hi (negI e.lo))
 have q:=EO.q
 rcases R with ⟨a,b⟩ | ⟨a,b⟩
 · have sl:sz e.lo=rv e.lo:=by rw [abs_sz,if_pos a]
   rw [sl] at hv
   generalize uP 16=u at *
   have hlu:rv e.lo*u≤3*u:=Rat.mul_le_mul_of_nonneg_right h1 (Rat.le_of_lt hup)
   refine ⟨⟨right_tq q.l q.h q.le,N.wok,rv_cmp5 ⟨N.wok,N.wpl⟩ ⟨rfl,?_⟩ ?_⟩,?_⟩
   · unfold plainV fitE
     rw [if_neg (show ¬ (1:Nat)=0 by decide),show nb 1=1 from nb1,MB_eq]
     decide
   · have e10:rv ⟨true,false,1,-10⟩*1024=1:=by
      show ((1:Nat):Rat)*tp (-10)*1024=1
      have c1:((1:Nat):Rat)=1:=rfl
      have e:(1024:Rat)=((2^10:Nat):Rat):=rfl
      rw [c1,Rat.one_mul,e,← tp_nat,← tp_add]
      rfl
     have hw:rv (wid2 e.hi (negI e.lo))≤sz (wid2 e.hi (negI e.lo)):=by
      rw [abs_sz]
      split <;> grind
     grind
   · obtain ⟨S,c,_⟩:=sub_q (p:=16) (by omega) (by omega) q (hd.more hX0) (by omega) (by omega)
     dsimp only at S c
     rw [hd2] at c
     have k:0 < rv (subS 16 false e.lo e.hi d d).lo:=by
      have c1:=c.pos (by grind)
      have e16:uP (16:Int).toNat*32768=1:=by
       have h2:uP 16*((2^(16-1):Nat):Rat)=1:=uP_mul (by omega)
       exact h2
      have hup':=uP_pos (16:Int).toNat
      generalize uP (16:Int).toNat=u' at *
      have hlu':(rv e.lo-2)*u'≤1*u':=Rat.mul_le_mul_of_nonneg_right (by grind) (Rat.le_of_lt hup')
      grind
     obtain ⟨k1,k2⟩:=pos_rv k
     exact ⟨S.bad,S.good,k1,k2⟩
 · exfalso
   grind
set_option maxRecDepth 8000 in
set_option maxHeartbeats 4000000 in
theorem awake5 (w:World) (hT:Tab w):Calls Tryz.prog 9 #[] w (TruePost w):=by
 obtain ⟨z,z1,z2,z3,-⟩:=num_q (p:=16) (n:=0) (by omega) (by omega) (by rw [nb_zero];omega)
 obtain ⟨o1,i1,i2,i3,-⟩:=num_q (p:=16) (n:=1) (by omega) (by omega) (by rw [nb1];omega)
 obtain ⟨tw',j1,j2,j3,-⟩:=num_q (p:=16) (n:=2) (by omega) (by omega) (by have:nb 2=2:=nb_of (B:=1) (by decide) (by decide);omega)
 have c0:((0:Nat):Int)=0:=rfl
 have c1:((1:Nat):Int)=1:=rfl
 have c2:((2:Nat):Int)=2:=rfl
 rw [c0] at z1
 rw [c1] at i1
 rw [c2] at j1
 have zm:z.m=0:=by
  rcases Nat.eq_zero_or_pos z.m with h | h
  · exact h
  · have:=sz_pos (x:=z) (by omega)
    rw [abs_sz,z3] at this
    exact absurd this (by decide)
 obtain ⟨o,ho⟩:∃ o,o=(numS 16 false 1):=⟨_,rfl⟩
 have CK:Hid (∀ (w':World),Calls Tryz.prog 12 #[.int .i64 16] w' (fun e w''=>e=.returned (.pointer (some ⟨w'.heap.size,0,none⟩))∧Wk 38 w'' w'.heap.size 16 false∧Below w'.heap.size w' w'')):=Lib.hid (fun w'=>calc5_any 16 w')
 have C0:Hid (∀ w' g,Wk 38 w' g 16 false→Tab w'→Calls Tryz.prog 31 #[.pointer (some ⟨g,0,none⟩),.int .i64 0] w' (SPost 38 w' g 16 ⟨false,z,z⟩)):=Lib.hid (fun w' g k t=>by rw [← z1];exact num_any 0 g 16 false w' k t (by omega) (by omega))
 have C1:Hid (∀ w' g,Wk 38 w' g 16 false→Tab w'→Calls Tryz.prog 31 #[.pointer (some ⟨g,0,none⟩),.int .i64 1] w' (SPost 38 w' g 16 o)):=Lib.hid (fun w' g k t=>by rw [ho];exact num_any 1 g 16 false w' k t (by omega) (by omega))
 have C2:Hid (∀ w' g,Wk 38 w' g 16 false→Tab w'→Calls Tryz.prog 31 #[.pointer (some ⟨g,0,none⟩),.int .i64 2] w' (SPost 38 w' g 16 ⟨false,tw',tw'⟩)):=Lib.hid (fun w' g k t=>by rw [← j1];exact num_any 2 g 16 false w' k t (by omega) (by omega))
 have E0:Hid (∀ w' g A n c B m d,Wk 38 w' g 16 false→Tab w'→Num w' (.slice A n c) z.m→Num w' (.slice B m d) z.m→Calls Tryz.prog 15 #[.pointer (some ⟨g,0,none⟩),spv z.neg A n c z.e z.neg B m d z.e] w' (SPost 38 w' g 16 o)):=Lib.hid (fun w' g A n c B m d k t h1 h2=>by rw [ho];exact eExp_one g 16 w' k h1 h2 z2.pl z2.ok z2.pl z2.ok zm zm t (by omega) (by omega))
 have r11:rightI o1 o1=true:=right_tq i2 i2 Rat.le_refl
 have oE:o=⟨false,o1,o1⟩:=by rw [ho,i1]
 have ob:o.bad=false:=by rw [oE]
 have oG:SGood o:=by rw [oE];exact ⟨i2.ok,i2.pl,i2.ok,i2.pl⟩
 have E1:Hid (∀ w' g A n c B m d,Wk 38 w' g 16 false→Tab w'→Num w' (.slice A n c) o.lo.m→Num w' (.slice B m d) o.hi.m→Calls Tryz.prog 15 #[.pointer (some ⟨g,0,none⟩),spv o.lo.neg A n c o.lo.e o.hi.neg B m d o.hi.e] w' (fun e' w''=>∃ e,EnOk 16 73000 e (exQ 1) (exQ 1) true∧SPost 38 w' g 16 e e' w'')):=Lib.hid (fun w' g A n c B m d k t h1 h2=>by
  rw [oE] at h1 h2 ⊢
  obtain ⟨m1,m2,m3,m4⟩:=most_tq
  have re:reachI o1 o1=true:=by
   unfold reachI
   rw [right_tq m2 i2 (by rw [i3,m4];decide),r11,right_tq i2 m1 (by rw [i3,m3];decide)]
   rfl
  have nm:Nrm o1:=⟨by have:=i2.e1;have:=i2.e2;have h:=i2.b;have hb:=(plainR_of i2.pl).odd;have:nb o1.m≤128:=(by omega);omega,by have:=i2.e1;omega⟩
  have hs:sz o1=1:=by rw [abs_sz,i3];decide
  have:=eExp_yes (lo:=o1) (hi:=o1) g 16 33000 w' k (DIn.of_num h1 i2.pl i2.ok) (DIn.of_num h2 i2.pl i2.ok) re nm nm t (by omega) (by omega) (.inr ⟨by rw [hs];decide,by omega⟩) (.inr ⟨by rw [hs];decide,by omega⟩) (by omega)
  rw [r11,show rv o1=1 from i3] at this
  exact this)
 have AQ:Hid (∀ e,EnOk 16 73000 e (exQ 1) (exQ 1) true→(rightI e.lo e.hi=true∧(wid2 e.hi (negI e.lo)).ok=true∧cmpI2 (wid2 e.hi (negI e.lo)) ⟨true,false,1,-10⟩≤0)∧((subS 16 false e.lo e.hi tw' tw').bad=false∧SGood (subS 16 false e.lo e.hi tw' tw')∧(subS 16 false e.lo e.hi tw' tw').lo.neg=false∧0 < (subS 16 false e.lo e.hi tw' tw').lo.m)):=Lib.hid (fun e EO=>aw5_q EO (by omega) (by omega) ⟨rfl,j2,j2,Rat.le_refl⟩ j3)
 have CB:Hid (∀ w' g e A n c B m d A' n' c' B' m' d',EnOk 16 73000 e (exQ 1) (exQ 1) true→Wk 38 w' g 16 false→Tab w'→Num w' (.slice A n c) e.lo.m→Num w' (.slice B m d) e.hi.m→Num w' (.slice A' n' c') tw'.m→Num w' (.slice B' m' d') tw'.m→Calls Tryz.prog 28 #[.pointer (some ⟨g,0,none⟩),spv e.lo.neg A n c e.lo.e e.hi.neg B m d e.hi.e,spv tw'.neg A' n' c' tw'.e tw'.neg B' m' d' tw'.e] w' (fun e' w''=>∃ t,t.bad=false∧SGood t∧t.lo.neg=false∧0 < t.lo.m∧SPost 38 w' g 16 t e' w'')):=Lib.hid (fun w' g e A n c B m d A' n' c' B' m' d' EO k t h1 h2 h3 h4=>by
  have G:=EO.q.good
  obtain ⟨_,a,b,c,d⟩:=AQ.out e EO
  exact (ssub_any g 16 false w' k (DIn.of_num h1 G.l2 G.l1) (DIn.of_num h2 G.h2 G.h1) (DIn.of_num h3 j2.pl j2.ok) (DIn.of_num h4 j2.pl j2.ok) t).mono fun e' w'' hp=>⟨_,a,b,c,d,hp⟩)
 have CS:Hid (∀ w' A n c B m d A' n' c' B' m' d',Num w' (.slice A n c) o.lo.m→Num w' (.slice B m d) o.hi.m→Num w' (.slice A' n' c') o.lo.m→Num w' (.slice B' m' d') o.hi.m→Calls Tryz.prog 16 #[spv o.lo.neg A n c o.lo.e o.hi.neg B m d o.hi.e,spv o.lo.neg A' n' c' o.lo.e o.hi.neg B' m' d' o.hi.e] w' (TruePost w')):=Lib.hid (fun w' A n c B m d A' n' c' B' m' d' h1 h2 h3 h4=>same_span o.lo o.hi A B A' B' n c m d n' c' m' d' w' h1 h2 h3 h4 oG.lo_small oG.hi_small)
 have CN:Hid (∀ w' e A n c B m d,EnOk 16 73000 e (exQ 1) (exQ 1) true→Tab w'→Num w' (.slice A n c) e.lo.m→Num w' (.slice B m d) e.hi.m→Calls Tryz.prog 40 #[spv e.lo.neg A n c e.lo.e e.hi.neg B m d e.hi.e,.int .i64 (-10)] w' (TruePost w')):=Lib.hid (fun w' e A n c B m d EO t h1 h2=>by
  have G:=EO.q.good
  obtain ⟨⟨a,b,c⟩,_⟩:=AQ.out e EO
  exact narrow_yes (-10) w' (DIn.of_num h1 G.l2 G.l1) (DIn.of_num h2 G.h2 G.h1) t G.l1 G.h1 a b c (by omega) (by omega))
 have HOB:=Lib.hid ob
 clear AQ ob oG oE r11 ho zm z1 z2 z3 i1 i2 i3 j1 j2 j3 c0 c1 c2
 go_enter Tryz.func9,Tryz.ntmps9
 go_wp2_with fail
 refine (CK.out w).mono ?_
 rintro e' w1 ⟨rfl,hW,b1⟩
 obtain ⟨g,hg⟩:∃ g,g=w.heap.size:=⟨_,rfl⟩
 rw [← hg] at hW ⊢
 have hgw:w.heap.size≤g:=by omega
 have HT1:=Lib.hid (hT.below b1)
 have HB1:=Lib.hid b1
 have TB:Hid (∀ b w' ks ns,St 38 w1 g 16 b w' ks ns→Tab w'):=Lib.hid (fun b w' ks ns h=>HT1.out.wk hW h.O)
 have S:=St.start hW
 clear CK b1 hT hg
 have k0:=S.lt
 have KY:=Lib.hid (C0.out _ _ S.W HT1.out)
 go_wp2_with fail
 refine KY.out.mono ?_
 rintro e' v1 ⟨A0,n0,c0,B0,m0,d0,rfl,N0,M0,W0,o0⟩
 have S1:=((S.only o0 W0).num M0).num N0
 clear KY S N0 M0 W0 o0 hW
 have KY:=Lib.hid (E0.out _ _ _ _ _ _ _ _ S1.W (TB.out _ _ _ _ S1) S1.ns.1 S1.ns.2.1)
 clear E0 C0
 have k1:=S1.lt
 go_wp2_with fail
 refine KY.out.mono ?_
 rintro e' v2 ⟨A2,n2,c2,B2,m2,d2,rfl,N2,M2,W2,o2⟩
 rw [HOB.out] at W2
 have S2:=((S1.only o2 W2).num M2).num N2
 clear KY S1 N2 M2 W2 o2 k0 k1
 have S3:=S2.alloc 31 #[.bool o.lo.neg,.slice A2 n2 c2,.int .i64 o.lo.e,.bool o.hi.neg,.slice B2 m2 d2,.int .i64 o.hi.e]
 have kg:=S2.lt
 obtain ⟨a2,ha2⟩:∃ a,a=v2.heap.size:=⟨_,rfl⟩
 have hg2:w1.heap.size≤a2:=by rw [ha2];exact S2.size
 go_upto_region 3 with fail
 rw [← ha2] at S3 ⊢
 clear S2 ha2 kg
 generalize v2.alloc (.cells #[.bool o.lo.neg,.slice A2 n2 c2,.int .i64 o.lo.e,.bool o.hi.neg,.slice B2 m2 d2,.int .i64 o.hi.e] 31)=v3 at *
 have k0:=S3.lt
 have KY:=Lib.hid (C1.out _ _ S3.W (TB.out _ _ _ _ S3))
 go_wp2_with fail
 refine KY.out.mono ?_
 rintro e' v4 ⟨A1,n1,c1,B1,m1,d1,rfl,N1,M1,W1,o1'⟩
 rw [HOB.out] at W1
 have S4:=((S3.only o1' W1).num M1).num N1
 clear KY S3 N1 M1 W1 o1' k0
 have KY:=Lib.hid (E1.out _ _ _ _ _ _ _ _ S4.W (TB.out _ _ _ _ S4) S4.ns.1 S4.ns.2.1)
 clear E1
 have k1:=S4.lt
 go_wp2_with fail
 refine KY.out.mono ?_
 rintro e' v5 ⟨e,EO,A3,n3,c3,B3,m3,d3,rfl,N3,M3,W3,o3⟩
 rw [EO.q.bad] at W3
 have S5:=((S4.only o3 W3).num M3).num N3
 clear KY S4 N3 M3 W3 o3 k1
 have S6:=S5.alloc 31 #[.bool e.lo.neg,.slice A3 n3 c3,.int .i64 e.lo.e,.bool e.hi.neg,.slice B3 m3 d3,.int .i64 e.hi.e]
 have kg:=S5.lt
 obtain ⟨a3,ha3⟩:∃ a,a=v5.heap.size:=⟨_,rfl⟩
 have hg3:w1.heap.size≤a3:=by rw [ha3];exact S5.size
 have hne:a2 < a3:=by rw [ha3];exact S5.ks.1.1.2
 go_upto_region 4 with fail
 rw [← ha3] at S6 ⊢
 clear S5 ha3 kg
 generalize v5.alloc (.cells #[.bool e.lo.neg,.slice A3 n3 c3,.int .i64 e.lo.e,.bool e.hi.neg,.slice B3 m3 d3,.int .i64 e.hi.e] 31)=v6 at *
 have V0:St 38 w1 g 16 false v6 [(31,a3,#[.bool e.lo.neg,.slice A3 n3 c3,.int .i64 e.lo.e,.bool e.hi.neg,.slice B3 m3 d3,.int .i64 e.hi.e]),(31,a2,#[.bool o.lo.neg,.slice A2 n2 c2,.int .i64 o.lo.e,.bool o.hi.neg,.slice B2 m2 d2,.int .i64 o.hi.e])] [(.slice A3 n3 c3,e.lo.m),(.slice B3 m3 d3,e.hi.m),(.slice A2 n2 c2,o.lo.m),(.slice B2 m2 d2,o.hi.m)]:=⟨S6.hg,S6.O,S6.W,S6.ks,S6.ns.1,S6.ns.2.1,S6.ns.2.2.2.2.1,S6.ns.2.2.2.2.2.1,trivial⟩
 clear S6
 go_cut [4] (fun s4 wx=>∃ (t:SRes) (a4:Nat) (A4:Option Addr) (n4 c4:Nat) (B4:Option Addr) (m4 d4:Nat),s4=.pointer (some ⟨a4,0,none⟩)∧w1.heap.size≤a4∧t.lo.neg=false∧0 < t.lo.m∧St 38 w1 g 16 false wx [(31,a4,#[.bool t.lo.neg,.slice A4 n4 c4,.int .i64 t.lo.e,.bool t.hi.neg,.slice B4 m4 d4,.int .i64 t.hi.e]),(31,a3,#[.bool e.lo.neg,.slice A3 n3 c3,.int .i64 e.lo.e,.bool e.hi.neg,.slice B3 m3 d3,.int .i64 e.hi.e]),(31,a2,#[.bool o.lo.neg,.slice A2 n2 c2,.int .i64 o.lo.e,.bool o.hi.neg,.slice B2 m2 d2,.int .i64 o.hi.e])] [(.slice A4 n4 c4,t.lo.m),(.slice B4 m4 d4,t.hi.m),(.slice A3 n3 c3,e.lo.m),(.slice B3 m3 d3,e.hi.m),(.slice A2 n2 c2,o.lo.m),(.slice B2 m2 d2,o.hi.m)])
 case first =>
  have SD:=V0.drew
  have SA:=(V0.below (alloc_bel v6 (.cells zs 31))).drew
  have YA:=(KC.made 31 v6 zs).drew
  have kl3:a3 < v6.heap.size:=V0.ks.1.1.2
  have kl2:a2 < v6.heap.size:=V0.ks.2.1.1.2
  have hgl:=V0.lt
  have hsz:=V0.size
  have HCC:Hid (∀ w' ns,St 38 w1 g 16 false w' [(31,a3,#[.bool e.lo.neg,.slice A3 n3 c3,.int .i64 e.lo.e,.bool e.hi.neg,.slice B3 m3 d3,.int .i64 e.hi.e]),(31,a2,#[.bool o.lo.neg,.slice A2 n2 c2,.int .i64 o.lo.e,.bool o.hi.neg,.slice B2 m2 d2,.int .i64 o.hi.e])] ns→w'.cell? ⟨a3,0,none⟩=some (.bool e.lo.neg)∧w'.cell? ⟨a3,1,none⟩=some (.slice A3 n3 c3)∧w'.cell? ⟨a3,2,none⟩=some (.int .i64 e.lo.e)∧w'.cell? ⟨a3,3,none⟩=some (.bool e.hi.neg)∧w'.cell? ⟨a3,4,none⟩=some (.slice B3 m3 d3)∧w'.cell? ⟨a3,5,none⟩=some (.int .i64 e.hi.e)):=Lib.hid (fun w' ns h=>⟨h.ks.1.1.at_ 0 _ rfl,h.ks.1.1.at_ 1 _ rfl,h.ks.1.1.at_ 2 _ rfl,h.ks.1.1.at_ 3 _ rfl,h.ks.1.1.at_ 4 _ rfl,h.ks.1.1.at_ 5 _ rfl⟩)
  have HPP:Hid (∀ w' ns,St 38 w1 g 16 false w' [(31,a3,#[.bool e.lo.neg,.slice A3 n3 c3,.int .i64 e.lo.e,.bool e.hi.neg,.slice B3 m3 d3,.int .i64 e.hi.e]),(31,a2,#[.bool o.lo.neg,.slice A2 n2 c2,.int .i64 o.lo.e,.bool o.hi.neg,.slice B2 m2 d2,.int .i64 o.hi.e])] ns→∀ a,a3≠a→∀ q1 q2 q3 q4 q5 q6,(put6 w' a q1 q2 q3 q4 q5 q6).cell? ⟨a3,0,none⟩=some (.bool e.lo.neg)∧(put6 w' a q1 q2 q3 q4 q5 q6).cell? ⟨a3,1,none⟩=some (.slice A3 n3 c3)∧(put6 w' a q1 q2 q3 q4 q5 q6).cell? ⟨a3,2,none⟩=some (.int .i64 e.lo.e)∧(put6 w' a q1 q2 q3 q4 q5 q6).cell? ⟨a3,3,none⟩=some (.bool e.hi.neg)∧(put6 w' a q1 q2 q3 q4 q5 q6).cell? ⟨a3,4,none⟩=some (.slice B3 m3 d3)∧(put6 w' a q1 q2 q3 q4 q5 q6).cell? ⟨a3,5,none⟩=some (.int .i64 e.hi.e)):=Lib.hid (fun w' ns h a hn q1 q2 q3 q4 q5 q6=>⟨(h.ks.1.1.only (only_put6 w' a q1 q2 q3 q4 q5 q6) hn).at_ 0 _ rfl,(h.ks.1.1.only (only_put6 w' a q1 q2 q3 q4 q5 q6) hn).at_ 1 _ rfl,(h.ks.1.1.only (only_put6 w' a q1 q2 q3 q4 q5 q6) hn).at_ 2 _ rfl,(h.ks.1.1.only (only_put6 w' a q1 q2 q3 q4 q5 q6) hn).at_ 3 _ rfl,(h.ks.1.1.only (only_put6 w' a q1 q2 q3 q4 q5 q6) hn).at_ 4 _ rfl,(h.ks.1.1.only (only_put6 w' a q1 q2 q3 q4 q5 q6) hn).at_ 5 _ rfl⟩)
  have XS:=HCC.out _ _ SD
  have XA:=HCC.out _ _ SA
  have LL:Hid (∀ v (t:SRes) A1 n1 c1 B1 m1 d1 ns,St 38 w1 g 16 false v [(31,a3,#[.bool e.lo.neg,.slice A3 n3 c3,.int .i64 e.lo.e,.bool e.hi.neg,.slice B3 m3 d3,.int .i64 e.hi.e]),(31,a2,#[.bool o.lo.neg,.slice A2 n2 c2,.int .i64 o.lo.e,.bool o.hi.neg,.slice B2 m2 d2,.int .i64 o.hi.e])] ns→Num v (.slice A1 n1 c1) t.lo.m→Num v (.slice B1 m1 d1) t.hi.m→NS v [(.slice A3 n3 c3,e.lo.m),(.slice B3 m3 d3,e.hi.m),(.slice A2 n2 c2,o.lo.m),(.slice B2 m2 d2,o.hi.m)]→St 38 w1 g 16 false (v.alloc (.cells #[.bool t.lo.neg,.slice A1 n1 c1,.int .i64 t.lo.e,.bool t.hi.neg,.slice B1 m1 d1,.int .i64 t.hi.e] 31)) [(31,v.heap.size,#[.bool t.lo.neg,.slice A1 n1 c1,.int .i64 t.lo.e,.bool t.hi.neg,.slice B1 m1 d1,.int .i64 t.hi.e]),(31,a3,#[.bool e.lo.neg,.slice A3 n3 c3,.int .i64 e.lo.e,.bool e.hi.neg,.slice B3 m3 d3,.int .i64 e.hi.e]),(31,a2,#[.bool o.lo.neg,.slice A2 n2 c2,.int .i64 o.lo.e,.bool o.hi.neg,.slice B2 m2 d2,.int .i64 o.hi.e])] ((.slice A1 n1 c1,t.lo.m) :: (.slice B1 m1 d1,t.hi.m) :: [(.slice A3 n3 c3,e.lo.m),(.slice B3 m3 d3,e.hi.m),(.slice A2 n2 c2,o.lo.m),(.slice B2 m2 d2,o.hi.m)])):=Lib.hid (fun v t A1 n1 c1 B1 m1 d1 ns h h1 h2 h3=>by
   have h':St 38 w1 g 16 false v [(31,a3,#[.bool e.lo.neg,.slice A3 n3 c3,.int .i64 e.lo.e,.bool e.hi.neg,.slice B3 m3 d3,.int .i64 e.hi.e]),(31,a2,#[.bool o.lo.neg,.slice A2 n2 c2,.int .i64 o.lo.e,.bool o.hi.neg,.slice B2 m2 d2,.int .i64 o.hi.e])] ((.slice A1 n1 c1,t.lo.m) :: (.slice B1 m1 d1,t.hi.m) :: [(.slice A3 n3 c3,e.lo.m),(.slice B3 m3 d3,e.hi.m),(.slice A2 n2 c2,o.lo.m),(.slice B2 m2 d2,o.hi.m)]):=⟨h.hg,h.O,h.W,h.ks,h1,h2,h3⟩
   exact h'.alloc _ _)
  have LE:Hid (∀ v (t:SRes) A1 n1 c1 B1 m1 d1 ns a,w1.heap.size≤a→a3≠a→a2≠a→St 38 w1 g 16 false v [(31,a3,#[.bool e.lo.neg,.slice A3 n3 c3,.int .i64 e.lo.e,.bool e.hi.neg,.slice B3 m3 d3,.int .i64 e.hi.e]),(31,a2,#[.bool o.lo.neg,.slice A2 n2 c2,.int .i64 o.lo.e,.bool o.hi.neg,.slice B2 m2 d2,.int .i64 o.hi.e])] ns→KC 31 v a zs→Num v (.slice A1 n1 c1) t.lo.m→Num v (.slice B1 m1 d1) t.hi.m→NS v [(.slice A3 n3 c3,e.lo.m),(.slice B3 m3 d3,e.hi.m),(.slice A2 n2 c2,o.lo.m),(.slice B2 m2 d2,o.hi.m)]→St 38 w1 g 16 false (put6 v a (.bool t.lo.neg) (.slice A1 n1 c1) (.int .i64 t.lo.e) (.bool t.hi.neg) (.slice B1 m1 d1) (.int .i64 t.hi.e)) [(31,a,#[.bool t.lo.neg,.slice A1 n1 c1,.int .i64 t.lo.e,.bool t.hi.neg,.slice B1 m1 d1,.int .i64 t.hi.e]),(31,a3,#[.bool e.lo.neg,.slice A3 n3 c3,.int .i64 e.lo.e,.bool e.hi.neg,.slice B3 m3 d3,.int .i64 e.hi.e]),(31,a2,#[.bool o.lo.neg,.slice A2 n2 c2,.int .i64 o.lo.e,.bool o.hi.neg,.slice B2 m2 d2,.int .i64 o.hi.e])] ((.slice A1 n1 c1,t.lo.m) :: (.slice B1 m1 d1,t.hi.m) :: [(.slice A3 n3 c3,e.lo.m),(.slice B3 m3 d3,e.hi.m),(.slice A2 n2 c2,o.lo.m),(.slice B2 m2 d2,o.hi.m)])):=Lib.hid (fun v t A1 n1 c1 B1 m1 d1 ns a ha e1 e2 h k h1 h2 h3=>by
   have h':St 38 w1 g 16 false v [(31,a3,#[.bool e.lo.neg,.slice A3 n3 c3,.int .i64 e.lo.e,.bool e.hi.neg,.slice B3 m3 d3,.int .i64 e.hi.e]),(31,a2,#[.bool o.lo.neg,.slice A2 n2 c2,.int .i64 o.lo.e,.bool o.hi.neg,.slice B2 m2 d2,.int .i64 o.hi.e])] ((.slice A1 n1 c1,t.lo.m) :: (.slice B1 m1 d1,t.hi.m) :: [(.slice A3 n3 c3,e.lo.m),(.slice B3 m3 d3,e.hi.m),(.slice A2 n2 c2,o.lo.m),(.slice B2 m2 d2,o.hi.m)]):=⟨h.hg,h.O,h.W,h.ks,h1,h2,h3⟩
   exact st_put6 h' k ha ⟨e1,e2,trivial⟩ _ _ _ _ _ _)
  have DB:Hid (∀ w' ks ns A n c B m d A' n' c' B' m' d',St 38 w1 g 16 false w' ks ns→Num w' (.slice A n c) e.lo.m→Num w' (.slice B m d) e.hi.m→Num w' (.slice A' n' c') tw'.m→Num w' (.slice B' m' d') tw'.m→Calls Tryz.prog 28 #[.pointer (some ⟨g,0,none⟩),spv e.lo.neg A n c e.lo.e e.hi.neg B m d e.hi.e,spv tw'.neg A' n' c' tw'.e tw'.neg B' m' d' tw'.e] w' (fun e' w''=>∃ t,t.bad=false∧SGood t∧t.lo.neg=false∧0 < t.lo.m∧SPost 38 w' g 16 t e' w'')):=Lib.hid (fun w' ks ns A n c B m d A' n' c' B' m' d' h h1 h2 h3 h4=>CB.out w' g e A n c B m d A' n' c' B' m' d' EO h.W (TB.out _ _ _ _ h) h1 h2 h3 h4)
  clear V0
  go_region_held3 (fun w'=>w'.cell? ⟨a3,0,none⟩=some (.bool e.lo.neg)∧w'.cell? ⟨a3,1,none⟩=some (.slice A3 n3 c3)∧w'.cell? ⟨a3,2,none⟩=some (.int .i64 e.lo.e)∧w'.cell? ⟨a3,3,none⟩=some (.bool e.hi.neg)∧w'.cell? ⟨a3,4,none⟩=some (.slice B3 m3 d3)∧w'.cell? ⟨a3,5,none⟩=some (.int .i64 e.hi.e))
   (first | with_reducible exact HPP.out _ _ V2 _ (by omega) _ _ _ _ _ _ | with_reducible exact HCC.out _ _ V2 | with_reducible exact HCC.out _ _ V1 | with_reducible exact XS | with_reducible exact XA | with_reducible exact HCC.out _ _ (V2.below (alloc_bel _ _)) | with_reducible exact HCC.out _ _ (V1.below (alloc_bel _ _)))
   (first
    | (go_at_call 31;refine (C2.out _ _ (by first | with_reducible exact SD.W | with_reducible exact SA.W) (by first | exact TB.out _ _ _ _ SD | exact TB.out _ _ _ _ SA)).mono ?_;rintro e' v7 ⟨A0,n0,c0,B0,m0,d0,rfl,N0,M0,W0,o0⟩;have V1:St 38 w1 g 16 false v7 [(31,a3,#[.bool e.lo.neg,.slice A3 n3 c3,.int .i64 e.lo.e,.bool e.hi.neg,.slice B3 m3 d3,.int .i64 e.hi.e]),(31,a2,#[.bool o.lo.neg,.slice A2 n2 c2,.int .i64 o.lo.e,.bool o.hi.neg,.slice B2 m2 d2,.int .i64 o.hi.e])] ((.slice A0 n0 c0,tw'.m) :: (.slice B0 m0 d0,tw'.m) :: [(.slice A3 n3 c3,e.lo.m),(.slice B3 m3 d3,e.hi.m),(.slice A2 n2 c2,o.lo.m),(.slice B2 m2 d2,o.hi.m)]):=(by first | with_reducible exact ((SD.only o0 W0).num M0).num N0 | with_reducible exact ((SA.only o0 W0).num M0).num N0);have hv7:v6.heap.size≤v7.heap.size:=(by have h:=o0.size;simp at h;omega);have hv7g:=V1.lt;have hv7a:=V1.ks.1.1.2;have hv7b:=V1.ks.2.1.1.2;have u1:=V1.ns.1;have u2:=V1.ns.2.1;have u3:=V1.ns.2.2.1;have u4:=V1.ns.2.2.2.1;first | (have ox:Only (v6.alloc (.cells zs 31)).drew v7 g:=(by with_reducible exact o0);have ya:=YA.only ox (by omega)) | skip)
    | (go_at_call 28;refine (DB.out _ _ _ _ _ _ _ _ _ _ _ _ _ _ _ (by first | with_reducible exact V1 | with_reducible exact V1.below (alloc_bel _ _)) (by first | with_reducible exact u3 | with_reducible exact num_al u3 _) (by first | with_reducible exact u4 | with_reducible exact num_al u4 _) (by first | with_reducible exact u1 | with_reducible exact num_al u1 _) (by first | with_reducible exact u2 | with_reducible exact num_al u2 _)).mono ?_;rintro e' v8 ⟨t,tb,tG,tn0,tm0,A1,n1,c1,B1,m1,d1,rfl,N1,M1,W1,o1⟩;have tn:=Lib.hid tn0;have tm:=Lib.hid tm0;clear tn0 tm0 tG;have W1':Wk 38 v8 g 16 false:=(by rw [← tb];exact W1);clear tb W1;have V2:St 38 w1 g 16 false v8 [(31,a3,#[.bool e.lo.neg,.slice A3 n3 c3,.int .i64 e.lo.e,.bool e.hi.neg,.slice B3 m3 d3,.int .i64 e.hi.e]),(31,a2,#[.bool o.lo.neg,.slice A2 n2 c2,.int .i64 o.lo.e,.bool o.hi.neg,.slice B2 m2 d2,.int .i64 o.hi.e])] ((.slice A1 n1 c1,t.lo.m) :: (.slice B1 m1 d1,t.hi.m) :: (.slice A0 n0 c0,tw'.m) :: (.slice B0 m0 d0,tw'.m) :: [(.slice A3 n3 c3,e.lo.m),(.slice B3 m3 d3,e.hi.m),(.slice A2 n2 c2,o.lo.m),(.slice B2 m2 d2,o.hi.m)]):=(by first | with_reducible exact ((V1.only o1 W1').num M1).num N1 | with_reducible exact (((V1.below (alloc_bel _ _)).only o1 W1').num M1).num N1);first | (have ox:Only v7 v8 g:=(by with_reducible exact o1);have z1:=ya.only ox (by omega);have z1c0:=z1.at_ 0 _ rfl;have z1c1:=z1.at_ 1 _ rfl;have z1c2:=z1.at_ 2 _ rfl;have z1c3:=z1.at_ 3 _ rfl;have z1c4:=z1.at_ 4 _ rfl;have z1c5:=z1.at_ 5 _ rfl;have z1f0:=z1.fr 0;have z1f1:=z1.fr 1;have z1f2:=z1.fr 2;have z1f3:=z1.fr 3;have z1f4:=z1.fr 4;have z1f5:=z1.fr 5;have z1l:=z1.2;have z1n:=Nat.ne_of_lt z1.2;have z1n2:=Nat.ne_of_gt z1.2) | (have ox:Only (v7.alloc (.cells zs 31)) v8 g:=(by with_reducible exact o1);have z1:=(KC.made 31 v7 zs).only ox (by omega);have z1c0:=z1.at_ 0 _ rfl;have z1c1:=z1.at_ 1 _ rfl;have z1c2:=z1.at_ 2 _ rfl;have z1c3:=z1.at_ 3 _ rfl;have z1c4:=z1.at_ 4 _ rfl;have z1c5:=z1.at_ 5 _ rfl;have z1f0:=z1.fr 0;have z1f1:=z1.fr 1;have z1f2:=z1.fr 2;have z1f3:=z1.fr 3;have z1f4:=z1.fr 4;have z1f5:=z1.fr 5;have z1l:=z1.2;have z1n:=Nat.ne_of_lt z1.2;have z1n2:=Nat.ne_of_gt z1.2) | skip))
  all_goals (
   go_wp2_with fail
   go_meet
   have f1:Num v8 (.slice A1 n1 c1) t.lo.m:=V2.ns.1
   have f2:Num v8 (.slice B1 m1 d1) t.hi.m:=V2.ns.2.1
   have f3:NS v8 [(.slice A3 n3 c3,e.lo.m),(.slice B3 m3 d3,e.hi.m),(.slice A2 n2 c2,o.lo.m),(.slice B2 m2 d2,o.hi.m)]:=V2.ns.2.2.2.2
   have f4:=V2.size
   first
    | ((with_reducible refine ⟨t,_,A1,n1,c1,B1,m1,d1,rfl,?_,tn.out,tm.out,LE.out v8 t A1 n1 c1 B1 m1 d1 _ _ ?_ ?_ ?_ V2 z1 f1 f2 f3⟩) <;> omega)
    | with_reducible exact ⟨t,_,A1,n1,c1,B1,m1,d1,rfl,f4,tn.out,tm.out,LL.out v8 t A1 n1 c1 B1 m1 d1 _ V2 f1 f2 f3⟩)
 case rest =>
  obtain ⟨t,a4,A4,n4,c4,B4,m4,d4,rfl,ha4,tn,tm,V⟩:=hcut
  have hd4:decide ((0:Int) < (n4:Int))=true:=decide_eq_true (by
   have h1:=num_len0 V.ns.1
   omega)
  have hn0:Hid (0 < n4):=Lib.hid (by have:=of_decide_eq_true hd4;omega)
  clear hd4
  have FB:Hid (∀ w' ks ns,St 38 w1 g 16 false w' ks ns→Below w.heap.size w w'):=Lib.hid (fun w' ks ns h=>below_only HB1.out h.O hgw)
  go_upto_region 5 with fail
  have SD:=V.drew
  have HCC:Hid (∀ w' ns,St 38 w1 g 16 false w' [(31,a4,#[.bool t.lo.neg,.slice A4 n4 c4,.int .i64 t.lo.e,.bool t.hi.neg,.slice B4 m4 d4,.int .i64 t.hi.e]),(31,a3,#[.bool e.lo.neg,.slice A3 n3 c3,.int .i64 e.lo.e,.bool e.hi.neg,.slice B3 m3 d3,.int .i64 e.hi.e]),(31,a2,#[.bool o.lo.neg,.slice A2 n2 c2,.int .i64 o.lo.e,.bool o.hi.neg,.slice B2 m2 d2,.int .i64 o.hi.e])] ns→w'.cell? ⟨a4,0,none⟩=some (.bool t.lo.neg)∧w'.cell? ⟨a4,1,none⟩=some (.slice A4 n4 c4)∧w'.cell? ⟨a3,0,none⟩=some (.bool e.lo.neg)∧w'.cell? ⟨a3,1,none⟩=some (.slice A3 n3 c3)∧w'.cell? ⟨a3,2,none⟩=some (.int .i64 e.lo.e)∧w'.cell? ⟨a3,3,none⟩=some (.bool e.hi.neg)∧w'.cell? ⟨a3,4,none⟩=some (.slice B3 m3 d3)∧w'.cell? ⟨a3,5,none⟩=some (.int .i64 e.hi.e)∧w'.cell? ⟨a2,0,none⟩=some (.bool o.lo.neg)∧w'.cell? ⟨a2,1,none⟩=some (.slice A2 n2 c2)∧w'.cell? ⟨a2,2,none⟩=some (.int .i64 o.lo.e)∧w'.cell? ⟨a2,3,none⟩=some (.bool o.hi.neg)∧w'.cell? ⟨a2,4,none⟩=some (.slice B2 m2 d2)∧w'.cell? ⟨a2,5,none⟩=some (.int .i64 o.hi.e)∧w'.cell? ⟨g,1,none⟩=some (.bool false)):=Lib.hid (fun w' ns h=>⟨h.ks.1.1.at_ 0 _ rfl,h.ks.1.1.at_ 1 _ rfl,h.ks.2.1.1.at_ 0 _ rfl,h.ks.2.1.1.at_ 1 _ rfl,h.ks.2.1.1.at_ 2 _ rfl,h.ks.2.1.1.at_ 3 _ rfl,h.ks.2.1.1.at_ 4 _ rfl,h.ks.2.1.1.at_ 5 _ rfl,h.ks.2.2.1.1.at_ 0 _ rfl,h.ks.2.2.1.1.at_ 1 _ rfl,h.ks.2.2.1.1.at_ 2 _ rfl,h.ks.2.2.1.1.at_ 3 _ rfl,h.ks.2.2.1.1.at_ 4 _ rfl,h.ks.2.2.1.1.at_ 5 _ rfl,h.wc.2⟩)
  have XS:=HCC.out _ _ SD
  clear V V0
  go_region_held3 (fun w'=>w'.cell? ⟨a4,0,none⟩=some (.bool t.lo.neg)∧w'.cell? ⟨a4,1,none⟩=some (.slice A4 n4 c4)∧w'.cell? ⟨a3,0,none⟩=some (.bool e.lo.neg)∧w'.cell? ⟨a3,1,none⟩=some (.slice A3 n3 c3)∧w'.cell? ⟨a3,2,none⟩=some (.int .i64 e.lo.e)∧w'.cell? ⟨a3,3,none⟩=some (.bool e.hi.neg)∧w'.cell? ⟨a3,4,none⟩=some (.slice B3 m3 d3)∧w'.cell? ⟨a3,5,none⟩=some (.int .i64 e.hi.e)∧w'.cell? ⟨a2,0,none⟩=some (.bool o.lo.neg)∧w'.cell? ⟨a2,1,none⟩=some (.slice A2 n2 c2)∧w'.cell? ⟨a2,2,none⟩=some (.int .i64 o.lo.e)∧w'.cell? ⟨a2,3,none⟩=some (.bool o.hi.neg)∧w'.cell? ⟨a2,4,none⟩=some (.slice B2 m2 d2)∧w'.cell? ⟨a2,5,none⟩=some (.int .i64 o.hi.e)∧w'.cell? ⟨g,1,none⟩=some (.bool false))
   (first | with_reducible exact HCC.out _ _ V3 | with_reducible exact HCC.out _ _ V2 | with_reducible exact HCC.out _ _ V1 | with_reducible exact XS)
   (first
    | (go_at_call 31;refine (C1.out _ _ SD.W (TB.out _ _ _ _ SD)).mono ?_;rintro e' v7 ⟨A5,n5,c5,B5,m5,d5,rfl,N5,M5,W5,o5⟩;rw [HOB.out] at W5;have V1:=((SD.only o5 W5).num M5).num N5;have u1:=V1.ns.1;have u2:=V1.ns.2.1;have u3:=V1.ns.2.2.2.2.2.2.1;have u4:=V1.ns.2.2.2.2.2.2.2.1)
    | (go_at_call 16;refine (CS.out _ _ _ _ _ _ _ _ _ _ _ _ _ u3 u4 u1 u2).mono ?_;rintro e' v8 ⟨rfl,b8⟩;have V2:=V1.below b8;have u5:=V2.ns.2.2.2.2.1;have u6:=V2.ns.2.2.2.2.2.1)
    | (go_at_call 40;refine (CN.out _ _ _ _ _ _ _ _ EO (TB.out _ _ _ _ V2) u5 u6).mono ?_;rintro e' v9 ⟨rfl,b9⟩;have V3:=V2.below b9))
  go_wp2_with fail
  go_ret
  exact ⟨by have h:=hn0.out;simp [h],FB.out _ _ _ V3⟩
end Go.Proofs.YtmbmohibpkepdaaGreatDoor
