/-
 volvellelaw05: ExpoRules.
-/
import Derived.Test.YtmbmohibpkepdaaGreatDoorPlEGEx13
namespace Go.Proofs.YtmbmohibpkepdaaGreatDoor
open Go.RowKit
set_option maxRecDepth 8000 in
set_option maxHeartbeats 40000000 in
theorem erules_any (na nb1:Bool) (A B:Option Addr) (n c m d:Nat) (x y:Nat→Nat) (ea eb p:Int) (w:World) (ha:Sl w A n c x) (hb:Sl w B m d y) (hn:n≤17592186044416) (hm:m≤17592186044416) (hT:Tab w) :
 Calls Tryz.prog 5 #[dyv na A n c ea,dyv nb1 B m d eb,.int .i64 p] w (TruePost w):=by
 have P0:Pu w ((w.alloc (.cells #[.bool na,.slice A n c,.int .i64 ea] 24)).alloc (.cells #[.bool nb1,.slice B m d,.int .i64 eb] 24)) [(24,w.heap.size+1,#[.bool nb1,.slice B m d,.int .i64 eb]),(24,w.heap.size,#[.bool na,.slice A n c,.int .i64 ea])] []:=by
  have h:=((⟨Below.refl _ w,trivial,trivial⟩:Pu w w [] []).alloc 24 #[.bool na,.slice A n c,.int .i64 ea]).alloc 24 #[.bool nb1,.slice B m d,.int .i64 eb]
  simp only [alloc_size] at h
  exact h
 have AW:=Lib.hid (awake5 ((w.alloc (.cells #[.bool na,.slice A n c,.int .i64 ea] 24)).alloc (.cells #[.bool nb1,.slice B m d,.int .i64 eb] 24)) (hT.below P0.bel))
 go_enter Tryz.func5,Tryz.ntmps5
 go_wp2_with fail
 refine AW.out.mono ?_
 generalize (w.alloc (.cells #[.bool na,.slice A n c,.int .i64 ea] 24)).alloc (.cells #[.bool nb1,.slice B m d,.int .i64 eb] 24)=w1 at *
 rintro e' w2 ⟨rfl,b2⟩
 have P1:=P0.below b2
 clear AW P0 b2
 have y0_0:=P1.ks.1.at_ 0 _ rfl
 have y0_1:=P1.ks.1.at_ 1 _ rfl
 have y0_2:=P1.ks.1.at_ 2 _ rfl
 have y1_0:=P1.ks.2.1.at_ 0 _ rfl
 have y1_1:=P1.ks.2.1.at_ 1 _ rfl
 have y1_2:=P1.ks.2.1.at_ 2 _ rfl
 have y0l:=P1.ks.1.2
 have y1l:=P1.ks.2.1.2
 go_wp2_with fail
 clear y0_0 y0_1 y0_2 y1_0 y1_1 y1_2 y0l y1l
 obtain ⟨U,hU⟩:∃ U,U=w2.heap.size:=⟨_,rfl⟩
 have P3:Pu w (((w2.alloc (.cells #[.int .u64 625] 51)).alloc (.cells #[.bool false,.slice (some ⟨U,0,none⟩) 1 1,.int .i64 4] 24)).alloc (.cells #[.bool na,.slice A n c,.int .i64 ea,.bool nb1,.slice B m d,.int .i64 eb] 24)) [(24,U+1+1,#[.bool na,.slice A n c,.int .i64 ea,.bool nb1,.slice B m d,.int .i64 eb]),(24,U+1,#[.bool false,.slice (some ⟨U,0,none⟩) 1 1,.int .i64 4]),(51,U,#[.int .u64 625]),(24,w.heap.size+1,#[.bool nb1,.slice B m d,.int .i64 eb]),(24,w.heap.size,#[.bool na,.slice A n c,.int .i64 ea])] [(.slice (some ⟨U,0,none⟩) 1 1,625)]:=by
  have h:=((P1.alloc 51 #[.int .u64 625]).alloc 24 #[.bool false,.slice (some ⟨U,0,none⟩) 1 1,.int .i64 4]).alloc 24 #[.bool na,.slice A n c,.int .i64 ea,.bool nb1,.slice B m d,.int .i64 eb]
  have n1:=num_one (one_slz 51 w2 625 _ 625 (by unfold B64;omega) rfl rfl) (by omega)
  replace n1:=(n1.below (alloc_bel _ (.cells #[.bool false,.slice (some ⟨U,0,none⟩) 1 1,.int .i64 4] 24))).below (alloc_bel _ (.cells #[.bool na,.slice A n c,.int .i64 ea,.bool nb1,.slice B m d,.int .i64 eb] 24))
  simp only [alloc_size] at h
  rw [← hU] at h n1
  exact h.num n1
 rw [← hU]
 clear P1 hU
 generalize ((w2.alloc (.cells #[.int .u64 625] 51)).alloc (.cells #[.bool false,.slice (some ⟨U,0,none⟩) 1 1,.int .i64 4] 24)).alloc (.cells #[.bool na,.slice A n c,.int .i64 ea,.bool nb1,.slice B m d,.int .i64 eb] 24)=w3 at *
 have hmq:=most5_q.1
 have nbm:nb 625≤64:=by have:nb 625=10:=nb_of (B:=9) (by decide) (by decide);omega
 have CM:Hid (∀ w' neg' X n' c' e' x',Sl w X n' c' x'→n'≤17592186044416→Below w.heap.size w w'→Num w' (.slice (some ⟨U,0,none⟩) 1 1) 625→Calls Tryz.prog 27 #[dyv neg' X n' c' e',dyv false (some ⟨U,0,none⟩) 1 1 4] w' (CmpP w' (cmpD (plainB neg' n' x' e') neg' false (vs B64 x' n') 625 e' 4) (plainB neg' n' x' e'))):=Lib.hid (fun w' neg' X n' c' e' x' h1 h2 h3 h4=>by
  obtain ⟨A0,n0,c0,f,hA0,hs,hn0,hc,hVe⟩:=h4.raw 1 nbm
  cases hA0
  have:=dcmp_wide neg' false X (some ⟨U,0,none⟩) n' c' 1 1 x' f e' 4 w' (h1.below h3) hs (by omega) (by omega)
  rw [hVe] at this
  have hp:plainB false 1 f 4=true:=by rw [plain_V hc,hVe];exact hmq.pl
  rw [hp,Bool.and_true] at this
  exact this)
 have CF:Hid (∀ w' neg' X n' c' e' x',Sl w X n' c' x'→Below w.heap.size w w'→Calls Tryz.prog 10 #[dyv neg' X n' c' e'] w' (BoolPost w' (fit5 neg' n' x' e'))):=Lib.hid (fun w' neg' X n' c' e' x' h1 h3=>fit5_any neg' X n' c' x' e' w' (h1.below h3))
 have HA:=Lib.hid ha
 have HB:=Lib.hid hb
 have HN:=Lib.hid (And.intro hn hm)
 have HT:=Lib.hid hT
 clear hmq nbm ha hb hn hm hT
 go_loopw [9,10,11,26] (fun _ _ _ s26 wr=>∃ j:Nat,j≤2∧s26=.int .i64 (j:Int)∧Hid (1≤j→plainB false n x ea=true∧cmpD true false false (vs B64 x n) 625 ea 4≤0∧fit5 false n x ea=true)∧Hid (2≤j→plainB false m y eb=true∧cmpD true false false (vs B64 y m) 625 eb 4≤0∧fit5 false m y eb=true)∧Pu w wr [(24,U+1+1,#[.bool na,.slice A n c,.int .i64 ea,.bool nb1,.slice B m d,.int .i64 eb]),(24,U+1,#[.bool false,.slice (some ⟨U,0,none⟩) 1 1,.int .i64 4]),(51,U,#[.int .u64 625]),(24,w.heap.size+1,#[.bool nb1,.slice B m d,.int .i64 eb]),(24,w.heap.size,#[.bool na,.slice A n c,.int .i64 ea])] [(.slice (some ⟨U,0,none⟩) 1 1,625)]) (fun _ _ _ s26 _=>2-(intOf s26).toNat)
 case atStart=>exact ⟨0,by omega,rfl,Lib.hid (fun h=>absurd h (by omega)),Lib.hid (fun h=>absurd h (by omega)),P3⟩
 case round =>
  clear P3
  obtain ⟨j,hj,rfl,h1,h2,P⟩:=hrel
  by_cases hlt:j < 2
  · rcases (by omega:j=0∨j=1) with rfl | rfl
    · have hd:decide (((0:Nat):Int) < 2)=true:=by decide
      have y0_0:=P.ks.1.at_ 0 _ rfl
      have y0_1:=P.ks.1.at_ 1 _ rfl
      have y0_2:=P.ks.1.at_ 2 _ rfl
      have y0_3:=P.ks.1.at_ 3 _ rfl
      have y0_4:=P.ks.1.at_ 4 _ rfl
      have y0_5:=P.ks.1.at_ 5 _ rfl
      have y1_0:=P.ks.2.1.at_ 0 _ rfl
      have y1_1:=P.ks.2.1.at_ 1 _ rfl
      have y1_2:=P.ks.2.1.at_ 2 _ rfl
      have y0l:=P.ks.1.2
      have y1l:=P.ks.2.1.2
      have z0:=P.ks.1.fr 0
      have P4:=P.alloc 24 #[.bool false,.slice A n c,.int .i64 ea]
      have f1:Num (wr.alloc (.cells #[.bool false,.slice A n c,.int .i64 ea] 24)) (.slice (some ⟨U,0,none⟩) 1 1) 625:=P4.ns.1
      have KM:=Lib.hid (CM.out _ false _ _ _ ea _ HA.out HN.out.1 P4.bel f1)
      go_wp2_with fail
      refine KM.out.mono ?_
      generalize hw4:wr.alloc (.cells #[.bool false,.slice A n c,.int .i64 ea] 24)=w4 at *
      rintro e' w5 ⟨rfl,b5⟩
      have P5:=P4.below b5
      obtain ⟨V,hV⟩:∃ V,V=wr.heap.size:=⟨_,rfl⟩
      rw [← hV] at P5 ⊢
      clear y0_0 y0_1 y0_2 y0_3 y0_4 y0_5 y1_0 y1_1 y1_2 y0l y1l
      clear KM P4 b5 hw4 hd z0 f1 hV
      have y0_0:=P5.ks.1.at_ 0 _ rfl
      have y0_1:=P5.ks.1.at_ 1 _ rfl
      have y0_2:=P5.ks.1.at_ 2 _ rfl
      have y0l:=P5.ks.1.2
      have KF:=Lib.hid (CF.out w5 false _ _ _ ea _ HA.out P5.bel)
      obtain ⟨ok,hok⟩:∃ b,b=plainB false n x ea:=⟨_,rfl⟩
      rw [← hok]
      cases ok with
      | false =>
       clear KF hok h1 h2
       go_wp2_with fail
       go_ret
       exact ⟨rfl,P5.bel⟩
      | true =>
       obtain ⟨Z,hZ⟩:∃ Z,Z=cmpD true false false (vs B64 x n) 625 ea 4:=⟨_,rfl⟩
       obtain ⟨fb,hfb⟩:∃ b,b=fit5 false n x ea:=⟨_,rfl⟩
       rw [← hZ]
       rw [← hfb] at KF
       by_cases hz:0 < Z
       · have hd:decide (Z > 0)=true:=decide_eq_true hz
         clear KF hok hZ hfb h1 h2 hz
         go_wp2_with fail
         go_ret
         exact ⟨rfl,P5.bel⟩
       · have hd:decide (Z > 0)=false:=decide_eq_false hz
         have HH:=Lib.hid (And.intro hok (And.intro hZ (And.intro hfb hz)))
         clear hok hZ hfb hz
         go_wp2_with fail
         refine KF.out.mono ?_
         rintro e' w6 ⟨rfl,b6⟩
         have P6:=P5.below b6
         clear b6 KF
         cases fb with
         | false =>
          go_wp2_with fail
          go_ret
          exact ⟨rfl,P6.bel⟩
         | true =>
          go_wp2_with fail
          go_roundw
          case rel=>exact ⟨1,by omega,rfl,Lib.hid (fun _=>⟨HH.out.1.symm,by rw [← HH.out.2.1];have:=HH.out.2.2.2;omega,HH.out.2.2.1.symm⟩),Lib.hid (fun h=>absurd h (by omega)),P6.bel,P6.ks.2,P6.ns⟩
          case measure=>decide
    · have hd:decide (((1:Nat):Int) < 2)=true:=by decide
      have y0_0:=P.ks.1.at_ 0 _ rfl
      have y0_1:=P.ks.1.at_ 1 _ rfl
      have y0_2:=P.ks.1.at_ 2 _ rfl
      have y0_3:=P.ks.1.at_ 3 _ rfl
      have y0_4:=P.ks.1.at_ 4 _ rfl
      have y0_5:=P.ks.1.at_ 5 _ rfl
      have y1_0:=P.ks.2.1.at_ 0 _ rfl
      have y1_1:=P.ks.2.1.at_ 1 _ rfl
      have y1_2:=P.ks.2.1.at_ 2 _ rfl
      have y0l:=P.ks.1.2
      have y1l:=P.ks.2.1.2
      have z0:=P.ks.1.fr 0
      have P4:=P.alloc 24 #[.bool false,.slice B m d,.int .i64 eb]
      have f1:Num (wr.alloc (.cells #[.bool false,.slice B m d,.int .i64 eb] 24)) (.slice (some ⟨U,0,none⟩) 1 1) 625:=P4.ns.1
      have KM:=Lib.hid (CM.out _ false _ _ _ eb _ HB.out HN.out.2 P4.bel f1)
      go_wp2_with fail
      refine KM.out.mono ?_
      generalize hw4:wr.alloc (.cells #[.bool false,.slice B m d,.int .i64 eb] 24)=w4 at *
      rintro e' w5 ⟨rfl,b5⟩
      have P5:=P4.below b5
      obtain ⟨V,hV⟩:∃ V,V=wr.heap.size:=⟨_,rfl⟩
      rw [← hV] at P5 ⊢
      clear y0_0 y0_1 y0_2 y0_3 y0_4 y0_5 y1_0 y1_1 y1_2 y0l y1l
      clear KM P4 b5 hw4 hd z0 f1 hV
      have y0_0:=P5.ks.1.at_ 0 _ rfl
      have y0_1:=P5.ks.1.at_ 1 _ rfl
      have y0_2:=P5.ks.1.at_ 2 _ rfl
      have y0l:=P5.ks.1.2
      have KF:=Lib.hid (CF.out w5 false _ _ _ eb _ HB.out P5.bel)
      obtain ⟨ok,hok⟩:∃ b,b=plainB false m y eb:=⟨_,rfl⟩
      rw [← hok]
      cases ok with
      | false =>
       clear KF hok h1 h2
       go_wp2_with fail
       go_ret
       exact ⟨rfl,P5.bel⟩
      | true =>
       obtain ⟨Z,hZ⟩:∃ Z,Z=cmpD true false false (vs B64 y m) 625 eb 4:=⟨_,rfl⟩
       obtain ⟨fb,hfb⟩:∃ b,b=fit5 false m y eb:=⟨_,rfl⟩
       rw [← hZ]
       rw [← hfb] at KF
       by_cases hz:0 < Z
       · have hd:decide (Z > 0)=true:=decide_eq_true hz
         clear KF hok hZ hfb h1 h2 hz
         go_wp2_with fail
         go_ret
         exact ⟨rfl,P5.bel⟩
       · have hd:decide (Z > 0)=false:=decide_eq_false hz
         have HH:=Lib.hid (And.intro hok (And.intro hZ (And.intro hfb hz)))
         clear hok hZ hfb hz
         go_wp2_with fail
         refine KF.out.mono ?_
         rintro e' w6 ⟨rfl,b6⟩
         have P6:=P5.below b6
         clear b6 KF
         cases fb with
         | false =>
          go_wp2_with fail
          go_ret
          exact ⟨rfl,P6.bel⟩
         | true =>
          go_wp2_with fail
          go_roundw
          case rel=>exact ⟨2,by omega,rfl,Lib.hid (fun _=>h1.out (by omega)),Lib.hid (fun _=>⟨HH.out.1.symm,by rw [← HH.out.2.1];have:=HH.out.2.2.2;omega,HH.out.2.2.1.symm⟩),P6.bel,P6.ks.2,P6.ns⟩
          case measure=>decide
  · obtain rfl:j=2:=by omega
    have GA:=Lib.hid (h1.out (by omega))
    have GB:=Lib.hid (h2.out (by omega))
    clear h1 h2 hlt hj CM CF
    have hd:decide (((2:Nat):Int) < 2)=false:=by decide
    have y0_0:=P.ks.1.at_ 0 _ rfl
    have y0_1:=P.ks.1.at_ 1 _ rfl
    have y0_2:=P.ks.1.at_ 2 _ rfl
    have y0_3:=P.ks.1.at_ 3 _ rfl
    have y0_4:=P.ks.1.at_ 4 _ rfl
    have y0_5:=P.ks.1.at_ 5 _ rfl
    have y0l:=P.ks.1.2
    have KB:=Lib.hid (bits5_any p wr)
    obtain ⟨q0,h0⟩:∃ b,b=bits5 p:=⟨_,rfl⟩
    obtain ⟨q1,h1⟩:∃ b,b=fit5 na n x ea:=⟨_,rfl⟩
    obtain ⟨q2,h2⟩:∃ b,b=fit5 nb1 m y eb:=⟨_,rfl⟩
    rw [← h0] at KB
    go_wp2_with fail
    refine KB.out.mono ?_
    rintro e' w4 ⟨rfl,b4⟩
    have P4:=P.below b4
    clear KB P b4
    clear y0_0 y0_1 y0_2 y0_3 y0_4 y0_5 y0l
    cases q0 with
    | false =>
     clear h0 h1 h2
     go_wp2_with fail
     go_ret
     exact ⟨rfl,P4.bel⟩
    | true =>
     have y0_0:=P4.ks.2.2.2.1.at_ 0 _ rfl
     have y0_1:=P4.ks.2.2.2.1.at_ 1 _ rfl
     have y0_2:=P4.ks.2.2.2.1.at_ 2 _ rfl
     have y1_0:=P4.ks.2.2.2.2.1.at_ 0 _ rfl
     have y1_1:=P4.ks.2.2.2.2.1.at_ 1 _ rfl
     have y1_2:=P4.ks.2.2.2.2.1.at_ 2 _ rfl
     have y0l:=P4.ks.2.2.2.1.2
     have y1l:=P4.ks.2.2.2.2.1.2
     have KB:=Lib.hid (fit5_any na A n c x ea w4 (HA.out.below P4.bel))
     rw [← h1] at KB
     have H0:=Lib.hid h0
     clear h0
     go_wp2_with fail
     refine KB.out.mono ?_
     rintro e' w5 ⟨rfl,b5⟩
     have P5:=P4.below b5
     clear KB P4 b5
     clear y0_0 y0_1 y0_2 y1_0 y1_1 y1_2 y0l y1l
     cases q1 with
     | false =>
      clear h1 h2
      go_wp2_with fail
      go_ret
      exact ⟨rfl,P5.bel⟩
     | true =>
      have y0_0:=P5.ks.2.2.2.1.at_ 0 _ rfl
      have y0_1:=P5.ks.2.2.2.1.at_ 1 _ rfl
      have y0_2:=P5.ks.2.2.2.1.at_ 2 _ rfl
      have y1_0:=P5.ks.2.2.2.2.1.at_ 0 _ rfl
      have y1_1:=P5.ks.2.2.2.2.1.at_ 1 _ rfl
      have y1_2:=P5.ks.2.2.2.2.1.at_ 2 _ rfl
      have y0l:=P5.ks.2.2.2.1.2
      have y1l:=P5.ks.2.2.2.2.1.2
      have KB:=Lib.hid (fit5_any nb1 B m d y eb w5 (HB.out.below P5.bel))
      rw [← h2] at KB
      have H1:=Lib.hid h1
      clear h1
      go_wp2_with fail
      refine KB.out.mono ?_
      rintro e' w6 ⟨rfl,b6⟩
      have P6:=P5.below b6
      clear KB P5 b6
      clear y0_0 y0_1 y0_2 y1_0 y1_1 y1_2 y0l y1l
      cases q2 with
      | false =>
       clear h2
       go_wp2_with fail
       go_ret
       exact ⟨rfl,P6.bel⟩
      | true =>
       have H2:=Lib.hid h2
       clear h2
       have IA:=in5_of (vs_lt HA.out.small) GA.out.1 GA.out.2.1 H1.out.symm
       have IB:=in5_of (vs_lt HB.out.small) GB.out.1 GB.out.2.1 H2.out.symm
       obtain ⟨a,b,ab,XC,YC,M1,M2,ON,EA,EB,MU,ES,OO,cPA,cPB,cSum,abk,cPt,cX,cY,cM1,cM2,cON,cOne,cME,cES,cEA,cEB,cMU,cMS⟩:=rules5 na nb1 A B n c m d x y ea eb p w HA.out HB.out H0.out.symm IA IB
       replace cPA:=Lib.hid cPA
       replace cPB:=Lib.hid cPB
       replace cSum:=Lib.hid cSum
       replace abk:=Lib.hid abk
       replace cPt:=Lib.hid cPt
       replace cX:=Lib.hid cX
       replace cY:=Lib.hid cY
       replace cM1:=Lib.hid cM1
       replace cM2:=Lib.hid cM2
       replace cON:=Lib.hid cON
       replace cOne:=Lib.hid cOne
       replace cME:=Lib.hid cME
       replace cES:=Lib.hid cES
       replace cEA:=Lib.hid cEA
       replace cEB:=Lib.hid cEB
       replace cMU:=Lib.hid cMU
       replace cMS:=Lib.hid cMS
       clear IA IB GA GB H0 H1 H2 HA HB HN
       have CK:=Lib.hid (calc5_any p w6)
       obtain ⟨g,hg⟩:∃ g,g=w6.heap.size:=⟨_,rfl⟩
       have hgw:w.heap.size≤g:=by have:=P6.bel.size;omega
       have hgA:w.heap.size < g:=by rw [hg];exact P6.ks.2.2.2.2.1.2
       have hgB:w.heap.size+1 < g:=by rw [hg];exact P6.ks.2.2.2.1.2
       rw [← hg] at CK
       go_wp2_with fail
       refine CK.out.mono ?_
       rintro e' w7 ⟨rfl,hW,b7⟩
       have P7:=P6.below (hg ▸ b7)
       clear CK P6 hg b7 hd
       have HT1:=Lib.hid (HT.out.below P7.bel)
       have HB1:=Lib.hid P7.bel
       have ka:=P7.ks.2.2.2.2.1
       have kb:=P7.ks.2.2.2.1
       clear P7
       have TB:Hid (∀ w' ks ns,St 38 w7 g p false w' ks ns→Tab w'):=Lib.hid (fun w' ks ns h=>HT1.out.wk hW h.O)
       have FB:Hid (∀ w' ks ns,St 38 w7 g p false w' ks ns→Below w.heap.size w w'):=Lib.hid (fun w' ks ns h=>below_only HB1.out h.O hgw)
       have S:=St.start hW
       go_upto_region 15 with fail
       have HCO:Hid (∀ w',Only w7 w' g→KC 24 w' w.heap.size #[.bool na,.slice A n c,.int .i64 ea]):=Lib.hid (fun w' o=>ka.only o (by omega))
       have HCB:Hid (∀ w',Only w7 w' g→KC 24 w' (w.heap.size+1) #[.bool nb1,.slice B m d,.int .i64 eb]):=Lib.hid (fun w' o=>kb.only o (by omega))
       have XS:=HCO.out _ S.drew.O
       replace S:=S.drew
       clear hW ka kb
       go_cut [13,14] (fun s13 s14 wx=>∃ (x y:SRes) (a13 a14:Nat) (A3:Option Addr) (n3 c3:Nat) (B3:Option Addr) (m3 d3:Nat) (A4:Option Addr) (n4 c4:Nat) (B4:Option Addr) (m4 d4:Nat),s13=.pointer (some ⟨a13,0,none⟩)∧s14=.pointer (some ⟨a14,0,none⟩)∧w7.heap.size≤a13∧w7.heap.size≤a14∧a13≠a14∧XC x∧YC y∧St 38 w7 g p false wx [(31,a13,#[.bool x.lo.neg,.slice A3 n3 c3,.int .i64 x.lo.e,.bool x.hi.neg,.slice B3 m3 d3,.int .i64 x.hi.e]),(31,a14,#[.bool y.lo.neg,.slice A4 n4 c4,.int .i64 y.lo.e,.bool y.hi.neg,.slice B4 m4 d4,.int .i64 y.hi.e])] [(.slice A4 n4 c4,y.lo.m),(.slice B4 m4 d4,y.hi.m),(.slice A3 n3 c3,x.lo.m),(.slice B3 m3 d3,x.hi.m)])
       case first =>
        clear cM1 cM2 cON cSum cPt cOne cME cES cEA cEB cMU cMS cPB abk HT
        as_aux_lemma =>
         refine hw_start (S:=fun w'=>KC 24 w' w.heap.size #[.bool na,.slice A n c,.int .i64 ea]) 20 #[false,false,false,false,false,false,false,false,false,false,false,false,false,false,false,false,false,false,false,false] (by kernel_rfl) (by kernel_rfl) (by kernel_rfl) XS ?_
         refine wpAnyH_take (i:=0) (oi:=⟨some 64,_,_,_,_,_⟩) (v:=.pointer (some ⟨g,0,none⟩)) rfl (by kernel_rfl) (by kernel_rfl) (by kernel_rfl) (fun _ _ _ h=>h) (yields_pure (by rfl) (fun w=>by kernel_rfl)) XS ?_
         simp only [Act.put,List.setIfInBounds_toArray,List.set_cons_zero,List.set_cons_succ]
         refine wpAnyH_take (i:=1) (oi:=⟨some 65,_,_,_,_,_⟩) (v:=.pointer (some ⟨g,0,none⟩)) rfl (by kernel_rfl) (by kernel_rfl) (by kernel_rfl) (fun _ _ _ h=>h) (yields_pure (by rfl) (fun w=>by kernel_rfl)) XS ?_
         simp only [Act.put,List.setIfInBounds_toArray,List.set_cons_zero,List.set_cons_succ]
         refine wpAnyH_take (i:=2) (oi:=⟨some 66,_,_,_,_,_⟩) (v:=.pointer (some ⟨g,0,none⟩)) rfl (by kernel_rfl) (by kernel_rfl) (by kernel_rfl) (fun _ _ _ h=>h) (yields_pure (by rfl) (fun w=>by kernel_rfl)) XS ?_
         simp only [Act.put,List.setIfInBounds_toArray,List.set_cons_zero,List.set_cons_succ]
         refine wpAnyH_take (i:=3) (oi:=⟨some 67,_,_,_,_,_⟩) (v:=.pointer (some ⟨g,0,none⟩)) rfl (by kernel_rfl) (by kernel_rfl) (by kernel_rfl) (fun _ _ _ h=>h) (yields_pure (by rfl) (fun w=>by kernel_rfl)) XS ?_
         simp only [Act.put,List.setIfInBounds_toArray,List.set_cons_zero,List.set_cons_succ]
         refine wpAnyH_take (i:=4) (oi:=⟨some 68,_,_,_,_,_⟩) (v:=.pointer (some ⟨g,0,none⟩)) rfl (by kernel_rfl) (by kernel_rfl) (by kernel_rfl) (fun _ _ _ h=>h) (yields_pure (by rfl) (fun w=>by kernel_rfl)) XS ?_
         simp only [Act.put,List.setIfInBounds_toArray,List.set_cons_zero,List.set_cons_succ]
         refine wpAnyH_take (i:=5) (oi:=⟨some 69,_,_,_,_,_⟩) (v:=.agg #[.bool na,.slice A n c,.int .i64 ea]) rfl (by kernel_rfl) (by kernel_rfl) (by kernel_rfl) (fun _ _ _ h=>h) (yields_dyad (by rfl) _ rfl (w.heap.size) rfl (fun _ h=>h)) XS ?_
         simp only [Act.put,List.setIfInBounds_toArray,List.set_cons_zero,List.set_cons_succ]
         refine wpAnyH_take (i:=8) (oi:=⟨some 72,_,_,_,_,_⟩) (v:=.pointer (some ⟨g,0,none⟩)) rfl (by kernel_rfl) (by kernel_rfl) (by kernel_rfl) (fun _ _ _ h=>h) (yields_pure (by rfl) (fun w=>by kernel_rfl)) XS ?_
         simp only [Act.put,List.setIfInBounds_toArray,List.set_cons_zero,List.set_cons_succ]
         refine wpAnyH_take (i:=9) (oi:=⟨some 73,_,_,_,_,_⟩) (v:=.pointer (some ⟨g,0,none⟩)) rfl (by kernel_rfl) (by kernel_rfl) (by kernel_rfl) (fun _ _ _ h=>h) (yields_pure (by rfl) (fun w=>by kernel_rfl)) XS ?_
         simp only [Act.put,List.setIfInBounds_toArray,List.set_cons_zero,List.set_cons_succ]
         refine wpAnyH_take (i:=10) (oi:=⟨some 74,_,_,_,_,_⟩) (v:=.pointer (some ⟨g,0,none⟩)) rfl (by kernel_rfl) (by kernel_rfl) (by kernel_rfl) (fun _ _ _ h=>h) (yields_pure (by rfl) (fun w=>by kernel_rfl)) XS ?_
         simp only [Act.put,List.setIfInBounds_toArray,List.set_cons_zero,List.set_cons_succ]
         refine wpAnyH_take (i:=11) (oi:=⟨some 75,_,_,_,_,_⟩) (v:=.pointer (some ⟨g,0,none⟩)) rfl (by kernel_rfl) (by kernel_rfl) (by kernel_rfl) (fun _ _ _ h=>h) (yields_pure (by rfl) (fun w=>by kernel_rfl)) XS ?_
         simp only [Act.put,List.setIfInBounds_toArray,List.set_cons_zero,List.set_cons_succ]
         refine wpAnyH_take (i:=12) (oi:=⟨some 76,_,_,_,_,_⟩) (v:=.pointer (some ⟨g,0,none⟩)) rfl (by kernel_rfl) (by kernel_rfl) (by kernel_rfl) (fun _ _ _ h=>h) (yields_pure (by rfl) (fun w=>by kernel_rfl)) XS ?_
         simp only [Act.put,List.setIfInBounds_toArray,List.set_cons_zero,List.set_cons_succ]
         refine wpAnyH_take (i:=13) (oi:=⟨some 77,_,_,_,_,_⟩) (v:=.agg #[.bool na,.slice A n c,.int .i64 ea]) rfl (by kernel_rfl) (by kernel_rfl) (by kernel_rfl) (fun _ _ _ h=>h) (yields_dyad (by rfl) _ rfl (w.heap.size) rfl (fun _ h=>h)) XS ?_
         simp only [Act.put,List.setIfInBounds_toArray,List.set_cons_zero,List.set_cons_succ]
         refine capture ?_
         intro G hG
         refine frame6 (R:=fun a=>G _ _ a _) 13 14 70 71 78 79 (by kernel_rfl) ?_
         intro A hA
         clear XS
         have N411:∀ (v:World) (bx:Nat) (bq:Nat) (r70:Value) (x:SRes) (A3:Option Addr) (n3 c3:Nat) (B3:Option Addr) (m3 d3:Nat) (r78:Value) (y:SRes) (A4:Option Addr) (n4 c4:Nat) (B4:Option Addr) (m4 d4:Nat),XC x→YC y→w7.heap.size≤bx→w7.heap.size≤bq→bx≠bq→St 38 w7 g p false v [(31,bx,zs),(31,bq,zs)] [(.slice A4 n4 c4,y.lo.m),(.slice B4 m4 d4,y.hi.m),(.slice A3 n3 c3,x.lo.m),(.slice B3 m3 d3,x.hi.m)]→G 2 #[true,true,true,true,true,true,true,true,true,true,true,true,true,true,true,true,true,true,false,false] (A (.pointer (some ⟨bx,0,none⟩)) (.pointer (some ⟨bq,0,none⟩)) r70 (spv x.lo.neg A3 n3 c3 x.lo.e x.hi.neg B3 m3 d3 x.hi.e) r78 (spv y.lo.neg A4 n4 c4 y.lo.e y.hi.neg B4 m4 d4 y.hi.e)) v:=by
          intro v bx bq r70 x A3 n3 c3 B3 m3 d3 r78 y A4 n4 c4 B4 m4 d4 hx hy hbx hbq hne L
          rw [hG,hA]
          simp only [Act.put,List.setIfInBounds_toArray,List.set_cons_zero,List.set_cons_succ]
          refine wpAnyH_ready (rs:=[18]) (by kernel_rfl) (by simp) ?_
          refine AllReadyH.cons (o:=⟨none,_,_,_,_,_⟩) rfl ?_ AllReadyH.nil
          intro K hK
          rw [if_pos (by rfl)]
          refine op_store6_any _ _ rfl bx rfl rfl L.ks.1.1 (st_storeA L L.ks.1.1 L.ks.2.1.1 hbx hne (.bool x.lo.neg) (.slice A3 n3 c3) (.int .i64 x.lo.e) (.bool x.hi.neg) (.slice B3 m3 d3) (.int .i64 x.hi.e)) ?_
          intro v1 L1
          refine hK.out _ _ (HCO.out _ L1.2.O) ?_
          intro _
          clear L hK K
          simp only [Act.put,List.setIfInBounds_toArray,List.set_cons_zero,List.set_cons_succ]
          refine wpAnyH_ready (rs:=[19]) (by kernel_rfl) (by simp) ?_
          refine AllReadyH.cons (o:=⟨none,_,_,_,_,_⟩) rfl ?_ AllReadyH.nil
          intro K hK
          rw [if_pos (by rfl)]
          refine op_store6_any _ _ rfl bq rfl rfl L1.1 (st_storeB L1 hbq hne (.bool y.lo.neg) (.slice A4 n4 c4) (.int .i64 y.lo.e) (.bool y.hi.neg) (.slice B4 m4 d4) (.int .i64 y.hi.e)) ?_
          intro v2 L2
          refine hK.out _ _ (HCO.out _ L2.out.O) ?_
          intro _
          clear L1 hK K
          simp only [Act.put,List.setIfInBounds_toArray,List.set_cons_zero,List.set_cons_succ]
          refine wpAnyH_done (by kernel_rfl) ?_ _
          replace L2:=st_swap L2.out
          go_wp2_with fail
          go_meet
          exact ⟨x,y,bx,bq,A3,n3,c3,B3,m3,d3,A4,n4,c4,B4,m4,d4,rfl,rfl,hbx,hbq,hne,hx,hy,L2⟩
         have N401:∀ (v:World) (bq:Nat) (r70:Value) (x:SRes) (A3:Option Addr) (n3 c3:Nat) (B3:Option Addr) (m3 d3:Nat) (r78:Value) (y:SRes) (A4:Option Addr) (n4 c4:Nat) (B4:Option Addr) (m4 d4:Nat),XC x→YC y→w7.heap.size≤bq→St 38 w7 g p false v [(31,bq,zs)] [(.slice A4 n4 c4,y.lo.m),(.slice B4 m4 d4,y.hi.m),(.slice A3 n3 c3,x.lo.m),(.slice B3 m3 d3,x.hi.m)]→G 3 #[true,true,true,true,true,true,true,true,true,true,true,true,true,true,true,true,false,true,false,false] (A undef (.pointer (some ⟨bq,0,none⟩)) r70 (spv x.lo.neg A3 n3 c3 x.lo.e x.hi.neg B3 m3 d3 x.hi.e) r78 (spv y.lo.neg A4 n4 c4 y.lo.e y.hi.neg B4 m4 d4 y.hi.e)) v:=by
          intro v bq r70 x A3 n3 c3 B3 m3 d3 r78 y A4 n4 c4 B4 m4 d4 hx hy hbq L
          rw [hG,hA]
          simp only [Act.put,List.setIfInBounds_toArray,List.set_cons_zero,List.set_cons_succ]
          refine wpAnyH_ready (rs:=[16]) (by kernel_rfl) (by simp) ?_
          refine AllReadyH.cons (o:=⟨some 13,_,_,_,_,_⟩) rfl ?_ AllReadyH.nil
          intro K hK
          rw [if_pos (by rfl)]
          refine op_alloc6_st L rfl (fun bx v' L1 hbx hn=>hK.out _ _ (HCO.out _ L1.O) (fun _=>?_))
          have hne:bx≠bq:=Ne.symm hn.1
          have NX:=N411 _ bx bq r70 x A3 n3 c3 B3 m3 d3 r78 y A4 n4 c4 B4 m4 d4 hx hy hbx hbq hne L1
          rw [hG,hA] at NX
          simp only [Act.put,List.setIfInBounds_toArray,List.set_cons_zero,List.set_cons_succ] at NX
          simp only [Act.put,List.setIfInBounds_toArray,List.set_cons_zero,List.set_cons_succ]
          exact NX
         have N410:∀ (v:World) (bx:Nat) (r70:Value) (x:SRes) (A3:Option Addr) (n3 c3:Nat) (B3:Option Addr) (m3 d3:Nat) (r78:Value) (y:SRes) (A4:Option Addr) (n4 c4:Nat) (B4:Option Addr) (m4 d4:Nat),XC x→YC y→w7.heap.size≤bx→St 38 w7 g p false v [(31,bx,zs)] [(.slice A4 n4 c4,y.lo.m),(.slice B4 m4 d4,y.hi.m),(.slice A3 n3 c3,x.lo.m),(.slice B3 m3 d3,x.hi.m)]→G 3 #[true,true,true,true,true,true,true,true,true,true,true,true,true,true,true,true,true,false,false,false] (A (.pointer (some ⟨bx,0,none⟩)) undef r70 (spv x.lo.neg A3 n3 c3 x.lo.e x.hi.neg B3 m3 d3 x.hi.e) r78 (spv y.lo.neg A4 n4 c4 y.lo.e y.hi.neg B4 m4 d4 y.hi.e)) v:=by
          intro v bx r70 x A3 n3 c3 B3 m3 d3 r78 y A4 n4 c4 B4 m4 d4 hx hy hbx L
          rw [hG,hA]
          simp only [Act.put,List.setIfInBounds_toArray,List.set_cons_zero,List.set_cons_succ]
          refine wpAnyH_ready (rs:=[17]) (by kernel_rfl) (by simp) ?_
          refine AllReadyH.cons (o:=⟨some 14,_,_,_,_,_⟩) rfl ?_ AllReadyH.nil
          intro K hK
          rw [if_pos (by rfl)]
          refine op_alloc6_st L rfl (fun bq v' L1 hbq hn=>hK.out _ _ (HCO.out _ L1.O) (fun _=>?_))
          replace L1:=st_swap L1
          have hne:bx≠bq:=hn.1
          have NX:=N411 _ bx bq r70 x A3 n3 c3 B3 m3 d3 r78 y A4 n4 c4 B4 m4 d4 hx hy hbx hbq hne L1
          rw [hG,hA] at NX
          simp only [Act.put,List.setIfInBounds_toArray,List.set_cons_zero,List.set_cons_succ] at NX
          simp only [Act.put,List.setIfInBounds_toArray,List.set_cons_zero,List.set_cons_succ]
          exact NX
         have N400:∀ (v:World) (r70:Value) (x:SRes) (A3:Option Addr) (n3 c3:Nat) (B3:Option Addr) (m3 d3:Nat) (r78:Value) (y:SRes) (A4:Option Addr) (n4 c4:Nat) (B4:Option Addr) (m4 d4:Nat),XC x→YC y→St 38 w7 g p false v [] [(.slice A4 n4 c4,y.lo.m),(.slice B4 m4 d4,y.hi.m),(.slice A3 n3 c3,x.lo.m),(.slice B3 m3 d3,x.hi.m)]→G 4 #[true,true,true,true,true,true,true,true,true,true,true,true,true,true,true,true,false,false,false,false] (A undef undef r70 (spv x.lo.neg A3 n3 c3 x.lo.e x.hi.neg B3 m3 d3 x.hi.e) r78 (spv y.lo.neg A4 n4 c4 y.lo.e y.hi.neg B4 m4 d4 y.hi.e)) v:=by
          intro v r70 x A3 n3 c3 B3 m3 d3 r78 y A4 n4 c4 B4 m4 d4 hx hy L
          rw [hG,hA]
          simp only [Act.put,List.setIfInBounds_toArray,List.set_cons_zero,List.set_cons_succ]
          refine wpAnyH_ready (rs:=[16,17]) (by kernel_rfl) (by simp) ?_
          refine AllReadyH.cons (o:=⟨some 13,_,_,_,_,_⟩) rfl ?_ ?_
          · intro K hK
            rw [if_pos (by rfl)]
            refine op_alloc6_st L rfl (fun bx v' L1 hbx hn=>hK.out _ _ (HCO.out _ L1.O) (fun _=>?_))
            have NX:=N410 _ bx r70 x A3 n3 c3 B3 m3 d3 r78 y A4 n4 c4 B4 m4 d4 hx hy hbx L1
            rw [hG,hA] at NX
            simp only [Act.put,List.setIfInBounds_toArray,List.set_cons_zero,List.set_cons_succ] at NX
            simp only [Act.put,List.setIfInBounds_toArray,List.set_cons_zero,List.set_cons_succ]
            exact NX
          refine AllReadyH.cons (o:=⟨some 14,_,_,_,_,_⟩) rfl ?_ AllReadyH.nil
          intro K hK
          rw [if_pos (by rfl)]
          refine op_alloc6_st L rfl (fun bq v' L1 hbq hn=>hK.out _ _ (HCO.out _ L1.O) (fun _=>?_))
          have NX:=N401 _ bq r70 x A3 n3 c3 B3 m3 d3 r78 y A4 n4 c4 B4 m4 d4 hx hy hbq L1
          rw [hG,hA] at NX
          simp only [Act.put,List.setIfInBounds_toArray,List.set_cons_zero,List.set_cons_succ] at NX
          simp only [Act.put,List.setIfInBounds_toArray,List.set_cons_zero,List.set_cons_succ]
          exact NX
         have N311:∀ (v:World) (bx:Nat) (bq:Nat) (r70:Value) (x:SRes) (A3:Option Addr) (n3 c3:Nat) (B3:Option Addr) (m3 d3:Nat) (A2:Option Addr) (n2 c2:Nat) (B2:Option Addr) (m2 d2:Nat),XC x→w7.heap.size≤bx→w7.heap.size≤bq→bx≠bq→St 38 w7 g p false v [(31,bx,zs),(31,bq,zs)] [(.slice A2 n2 c2,a.m),(.slice B2 m2 d2,a.m),(.slice A3 n3 c3,x.lo.m),(.slice B3 m3 d3,x.hi.m)]→G 3 #[true,true,true,true,true,true,true,true,true,true,true,true,true,true,true,false,true,true,false,false] (A (.pointer (some ⟨bx,0,none⟩)) (.pointer (some ⟨bq,0,none⟩)) r70 (spv x.lo.neg A3 n3 c3 x.lo.e x.hi.neg B3 m3 d3 x.hi.e) (spv a.neg A2 n2 c2 a.e a.neg B2 m2 d2 a.e) undef) v:=by
          intro v bx bq r70 x A3 n3 c3 B3 m3 d3 A2 n2 c2 B2 m2 d2 hx hbx hbq hne L
          rw [hG,hA]
          simp only [Act.put,List.setIfInBounds_toArray,List.set_cons_zero,List.set_cons_succ]
          refine wpAnyH_ready (rs:=[15]) (by kernel_rfl) (by simp) ?_
          refine AllReadyH.cons (o:=⟨some 79,_,_,_,_,_⟩) rfl ?_ AllReadyH.nil
          intro K hK
          rw [if_pos (by rfl)]
          refine op_call (cY.out _ _ _ _ _ _ _ _ L.W (TB.out _ _ _ L) L.ns.1 L.ns.2.1) (by kernel_rfl) ?_
          rintro e' v' ⟨y,hy,yb,A4,n4,c4,B4,m4,d4,rfl,N0,M0,W0,o0⟩
          rw [yb] at W0
          have L1:=((L.only o0 W0).num M0).num N0
          replace L1:=st_drop2 L1
          have NX:=N411 _ bx bq r70 x A3 n3 c3 B3 m3 d3 (spv a.neg A2 n2 c2 a.e a.neg B2 m2 d2 a.e) y A4 n4 c4 B4 m4 d4 hx hy hbx hbq hne L1
          rw [hG,hA] at NX
          simp only [Act.put,List.setIfInBounds_toArray,List.set_cons_zero,List.set_cons_succ] at NX
          refine ⟨_,rfl,hK.out _ _ (HCO.out _ L1.O) (fun _=>?_)⟩
          simp only [Act.put,List.setIfInBounds_toArray,List.set_cons_zero,List.set_cons_succ]
          exact NX
         have N301:∀ (v:World) (bq:Nat) (r70:Value) (x:SRes) (A3:Option Addr) (n3 c3:Nat) (B3:Option Addr) (m3 d3:Nat) (A2:Option Addr) (n2 c2:Nat) (B2:Option Addr) (m2 d2:Nat),XC x→w7.heap.size≤bq→St 38 w7 g p false v [(31,bq,zs)] [(.slice A2 n2 c2,a.m),(.slice B2 m2 d2,a.m),(.slice A3 n3 c3,x.lo.m),(.slice B3 m3 d3,x.hi.m)]→G 4 #[true,true,true,true,true,true,true,true,true,true,true,true,true,true,true,false,false,true,false,false] (A undef (.pointer (some ⟨bq,0,none⟩)) r70 (spv x.lo.neg A3 n3 c3 x.lo.e x.hi.neg B3 m3 d3 x.hi.e) (spv a.neg A2 n2 c2 a.e a.neg B2 m2 d2 a.e) undef) v:=by
          intro v bq r70 x A3 n3 c3 B3 m3 d3 A2 n2 c2 B2 m2 d2 hx hbq L
          rw [hG,hA]
          simp only [Act.put,List.setIfInBounds_toArray,List.set_cons_zero,List.set_cons_succ]
          refine wpAnyH_ready (rs:=[15,16]) (by kernel_rfl) (by simp) ?_
          refine AllReadyH.cons (o:=⟨some 79,_,_,_,_,_⟩) rfl ?_ ?_
          · intro K hK
            rw [if_pos (by rfl)]
            refine op_call (cY.out _ _ _ _ _ _ _ _ L.W (TB.out _ _ _ L) L.ns.1 L.ns.2.1) (by kernel_rfl) ?_
            rintro e' v' ⟨y,hy,yb,A4,n4,c4,B4,m4,d4,rfl,N0,M0,W0,o0⟩
            rw [yb] at W0
            have L1:=((L.only o0 W0).num M0).num N0
            replace L1:=st_drop2 L1
            have NX:=N401 _ bq r70 x A3 n3 c3 B3 m3 d3 (spv a.neg A2 n2 c2 a.e a.neg B2 m2 d2 a.e) y A4 n4 c4 B4 m4 d4 hx hy hbq L1
            rw [hG,hA] at NX
            simp only [Act.put,List.setIfInBounds_toArray,List.set_cons_zero,List.set_cons_succ] at NX
            refine ⟨_,rfl,hK.out _ _ (HCO.out _ L1.O) (fun _=>?_)⟩
            simp only [Act.put,List.setIfInBounds_toArray,List.set_cons_zero,List.set_cons_succ]
            exact NX
          refine AllReadyH.cons (o:=⟨some 13,_,_,_,_,_⟩) rfl ?_ AllReadyH.nil
          intro K hK
          rw [if_pos (by rfl)]
          refine op_alloc6_st L rfl (fun bx v' L1 hbx hn=>hK.out _ _ (HCO.out _ L1.O) (fun _=>?_))
          have hne:bx≠bq:=Ne.symm hn.1
          have NX:=N311 _ bx bq r70 x A3 n3 c3 B3 m3 d3 A2 n2 c2 B2 m2 d2 hx hbx hbq hne L1
          rw [hG,hA] at NX
          simp only [Act.put,List.setIfInBounds_toArray,List.set_cons_zero,List.set_cons_succ] at NX
          simp only [Act.put,List.setIfInBounds_toArray,List.set_cons_zero,List.set_cons_succ]
          exact NX
         have N310:∀ (v:World) (bx:Nat) (r70:Value) (x:SRes) (A3:Option Addr) (n3 c3:Nat) (B3:Option Addr) (m3 d3:Nat) (A2:Option Addr) (n2 c2:Nat) (B2:Option Addr) (m2 d2:Nat),XC x→w7.heap.size≤bx→St 38 w7 g p false v [(31,bx,zs)] [(.slice A2 n2 c2,a.m),(.slice B2 m2 d2,a.m),(.slice A3 n3 c3,x.lo.m),(.slice B3 m3 d3,x.hi.m)]→G 4 #[true,true,true,true,true,true,true,true,true,true,true,true,true,true,true,false,true,false,false,false] (A (.pointer (some ⟨bx,0,none⟩)) undef r70 (spv x.lo.neg A3 n3 c3 x.lo.e x.hi.neg B3 m3 d3 x.hi.e) (spv a.neg A2 n2 c2 a.e a.neg B2 m2 d2 a.e) undef) v:=by
          intro v bx r70 x A3 n3 c3 B3 m3 d3 A2 n2 c2 B2 m2 d2 hx hbx L
          rw [hG,hA]
          simp only [Act.put,List.setIfInBounds_toArray,List.set_cons_zero,List.set_cons_succ]
          refine wpAnyH_ready (rs:=[15,17]) (by kernel_rfl) (by simp) ?_
          refine AllReadyH.cons (o:=⟨some 79,_,_,_,_,_⟩) rfl ?_ ?_
          · intro K hK
            rw [if_pos (by rfl)]
            refine op_call (cY.out _ _ _ _ _ _ _ _ L.W (TB.out _ _ _ L) L.ns.1 L.ns.2.1) (by kernel_rfl) ?_
            rintro e' v' ⟨y,hy,yb,A4,n4,c4,B4,m4,d4,rfl,N0,M0,W0,o0⟩
            rw [yb] at W0
            have L1:=((L.only o0 W0).num M0).num N0
            replace L1:=st_drop2 L1
            have NX:=N410 _ bx r70 x A3 n3 c3 B3 m3 d3 (spv a.neg A2 n2 c2 a.e a.neg B2 m2 d2 a.e) y A4 n4 c4 B4 m4 d4 hx hy hbx L1
            rw [hG,hA] at NX
            simp only [Act.put,List.setIfInBounds_toArray,List.set_cons_zero,List.set_cons_succ] at NX
            refine ⟨_,rfl,hK.out _ _ (HCO.out _ L1.O) (fun _=>?_)⟩
            simp only [Act.put,List.setIfInBounds_toArray,List.set_cons_zero,List.set_cons_succ]
            exact NX
          refine AllReadyH.cons (o:=⟨some 14,_,_,_,_,_⟩) rfl ?_ AllReadyH.nil
          intro K hK
          rw [if_pos (by rfl)]
          refine op_alloc6_st L rfl (fun bq v' L1 hbq hn=>hK.out _ _ (HCO.out _ L1.O) (fun _=>?_))
          replace L1:=st_swap L1
          have hne:bx≠bq:=hn.1
          have NX:=N311 _ bx bq r70 x A3 n3 c3 B3 m3 d3 A2 n2 c2 B2 m2 d2 hx hbx hbq hne L1
          rw [hG,hA] at NX
          simp only [Act.put,List.setIfInBounds_toArray,List.set_cons_zero,List.set_cons_succ] at NX
          simp only [Act.put,List.setIfInBounds_toArray,List.set_cons_zero,List.set_cons_succ]
          exact NX
         have N300:∀ (v:World) (r70:Value) (x:SRes) (A3:Option Addr) (n3 c3:Nat) (B3:Option Addr) (m3 d3:Nat) (A2:Option Addr) (n2 c2:Nat) (B2:Option Addr) (m2 d2:Nat),XC x→St 38 w7 g p false v [] [(.slice A2 n2 c2,a.m),(.slice B2 m2 d2,a.m),(.slice A3 n3 c3,x.lo.m),(.slice B3 m3 d3,x.hi.m)]→G 5 #[true,true,true,true,true,true,true,true,true,true,true,true,true,true,true,false,false,false,false,false] (A undef undef r70 (spv x.lo.neg A3 n3 c3 x.lo.e x.hi.neg B3 m3 d3 x.hi.e) (spv a.neg A2 n2 c2 a.e a.neg B2 m2 d2 a.e) undef) v:=by
          intro v r70 x A3 n3 c3 B3 m3 d3 A2 n2 c2 B2 m2 d2 hx L
          rw [hG,hA]
          simp only [Act.put,List.setIfInBounds_toArray,List.set_cons_zero,List.set_cons_succ]
          refine wpAnyH_ready (rs:=[15,16,17]) (by kernel_rfl) (by simp) ?_
          refine AllReadyH.cons (o:=⟨some 79,_,_,_,_,_⟩) rfl ?_ ?_
          · intro K hK
            rw [if_pos (by rfl)]
            refine op_call (cY.out _ _ _ _ _ _ _ _ L.W (TB.out _ _ _ L) L.ns.1 L.ns.2.1) (by kernel_rfl) ?_
            rintro e' v' ⟨y,hy,yb,A4,n4,c4,B4,m4,d4,rfl,N0,M0,W0,o0⟩
            rw [yb] at W0
            have L1:=((L.only o0 W0).num M0).num N0
            replace L1:=st_drop2 L1
            have NX:=N400 _ r70 x A3 n3 c3 B3 m3 d3 (spv a.neg A2 n2 c2 a.e a.neg B2 m2 d2 a.e) y A4 n4 c4 B4 m4 d4 hx hy L1
            rw [hG,hA] at NX
            simp only [Act.put,List.setIfInBounds_toArray,List.set_cons_zero,List.set_cons_succ] at NX
            refine ⟨_,rfl,hK.out _ _ (HCO.out _ L1.O) (fun _=>?_)⟩
            simp only [Act.put,List.setIfInBounds_toArray,List.set_cons_zero,List.set_cons_succ]
            exact NX
          refine AllReadyH.cons (o:=⟨some 13,_,_,_,_,_⟩) rfl ?_ ?_
          · intro K hK
            rw [if_pos (by rfl)]
            refine op_alloc6_st L rfl (fun bx v' L1 hbx hn=>hK.out _ _ (HCO.out _ L1.O) (fun _=>?_))
            have NX:=N310 _ bx r70 x A3 n3 c3 B3 m3 d3 A2 n2 c2 B2 m2 d2 hx hbx L1
            rw [hG,hA] at NX
            simp only [Act.put,List.setIfInBounds_toArray,List.set_cons_zero,List.set_cons_succ] at NX
            simp only [Act.put,List.setIfInBounds_toArray,List.set_cons_zero,List.set_cons_succ]
            exact NX
          refine AllReadyH.cons (o:=⟨some 14,_,_,_,_,_⟩) rfl ?_ AllReadyH.nil
          intro K hK
          rw [if_pos (by rfl)]
          refine op_alloc6_st L rfl (fun bq v' L1 hbq hn=>hK.out _ _ (HCO.out _ L1.O) (fun _=>?_))
          have NX:=N301 _ bq r70 x A3 n3 c3 B3 m3 d3 A2 n2 c2 B2 m2 d2 hx hbq L1
          rw [hG,hA] at NX
          simp only [Act.put,List.setIfInBounds_toArray,List.set_cons_zero,List.set_cons_succ] at NX
          simp only [Act.put,List.setIfInBounds_toArray,List.set_cons_zero,List.set_cons_succ]
          exact NX
         have N211:∀ (v:World) (bx:Nat) (bq:Nat) (r70:Value) (x:SRes) (A3:Option Addr) (n3 c3:Nat) (B3:Option Addr) (m3 d3:Nat),XC x→w7.heap.size≤bx→w7.heap.size≤bq→bx≠bq→St 38 w7 g p false v [(31,bx,zs),(31,bq,zs)] [(.slice A3 n3 c3,x.lo.m),(.slice B3 m3 d3,x.hi.m)]→G 4 #[true,true,true,true,true,true,true,true,true,true,true,true,true,true,false,false,true,true,false,false] (A (.pointer (some ⟨bx,0,none⟩)) (.pointer (some ⟨bq,0,none⟩)) r70 (spv x.lo.neg A3 n3 c3 x.lo.e x.hi.neg B3 m3 d3 x.hi.e) undef undef) v:=by
          intro v bx bq r70 x A3 n3 c3 B3 m3 d3 hx hbx hbq hne L
          rw [hG,hA]
          simp only [Act.put,List.setIfInBounds_toArray,List.set_cons_zero,List.set_cons_succ]
          refine wpAnyH_ready (rs:=[14]) (by kernel_rfl) (by simp) ?_
          refine AllReadyH.cons (o:=⟨some 78,_,_,_,_,_⟩) rfl ?_ AllReadyH.nil
          intro K hK
          rw [if_pos (by rfl)]
          refine op_call (cPA.out _ _ L.W (FB.out _ _ _ L)) (by kernel_rfl) ?_
          rintro e' v' ⟨A2,n2,c2,B2,m2,d2,rfl,N0,M0,W0,o0⟩
          replace N0:Num _ _ a.m:=N0
          replace M0:Num _ _ a.m:=M0
          replace W0:Wk 38 _ g p false:=W0
          have L1:=((L.only o0 W0).num M0).num N0
          have NX:=N311 _ bx bq r70 x A3 n3 c3 B3 m3 d3 A2 n2 c2 B2 m2 d2 hx hbx hbq hne L1
          rw [hG,hA] at NX
          simp only [Act.put,List.setIfInBounds_toArray,List.set_cons_zero,List.set_cons_succ] at NX
          refine ⟨_,rfl,hK.out _ _ (HCO.out _ L1.O) (fun _=>?_)⟩
          simp only [Act.put,List.setIfInBounds_toArray,List.set_cons_zero,List.set_cons_succ]
          exact NX
         have N201:∀ (v:World) (bq:Nat) (r70:Value) (x:SRes) (A3:Option Addr) (n3 c3:Nat) (B3:Option Addr) (m3 d3:Nat),XC x→w7.heap.size≤bq→St 38 w7 g p false v [(31,bq,zs)] [(.slice A3 n3 c3,x.lo.m),(.slice B3 m3 d3,x.hi.m)]→G 5 #[true,true,true,true,true,true,true,true,true,true,true,true,true,true,false,false,false,true,false,false] (A undef (.pointer (some ⟨bq,0,none⟩)) r70 (spv x.lo.neg A3 n3 c3 x.lo.e x.hi.neg B3 m3 d3 x.hi.e) undef undef) v:=by
          intro v bq r70 x A3 n3 c3 B3 m3 d3 hx hbq L
          rw [hG,hA]
          simp only [Act.put,List.setIfInBounds_toArray,List.set_cons_zero,List.set_cons_succ]
          refine wpAnyH_ready (rs:=[14,16]) (by kernel_rfl) (by simp) ?_
          refine AllReadyH.cons (o:=⟨some 78,_,_,_,_,_⟩) rfl ?_ ?_
          · intro K hK
            rw [if_pos (by rfl)]
            refine op_call (cPA.out _ _ L.W (FB.out _ _ _ L)) (by kernel_rfl) ?_
            rintro e' v' ⟨A2,n2,c2,B2,m2,d2,rfl,N0,M0,W0,o0⟩
            replace N0:Num _ _ a.m:=N0
            replace M0:Num _ _ a.m:=M0
            replace W0:Wk 38 _ g p false:=W0
            have L1:=((L.only o0 W0).num M0).num N0
            have NX:=N301 _ bq r70 x A3 n3 c3 B3 m3 d3 A2 n2 c2 B2 m2 d2 hx hbq L1
            rw [hG,hA] at NX
            simp only [Act.put,List.setIfInBounds_toArray,List.set_cons_zero,List.set_cons_succ] at NX
            refine ⟨_,rfl,hK.out _ _ (HCO.out _ L1.O) (fun _=>?_)⟩
            simp only [Act.put,List.setIfInBounds_toArray,List.set_cons_zero,List.set_cons_succ]
            exact NX
          refine AllReadyH.cons (o:=⟨some 13,_,_,_,_,_⟩) rfl ?_ AllReadyH.nil
          intro K hK
          rw [if_pos (by rfl)]
          refine op_alloc6_st L rfl (fun bx v' L1 hbx hn=>hK.out _ _ (HCO.out _ L1.O) (fun _=>?_))
          have hne:bx≠bq:=Ne.symm hn.1
          have NX:=N211 _ bx bq r70 x A3 n3 c3 B3 m3 d3 hx hbx hbq hne L1
          rw [hG,hA] at NX
          simp only [Act.put,List.setIfInBounds_toArray,List.set_cons_zero,List.set_cons_succ] at NX
          simp only [Act.put,List.setIfInBounds_toArray,List.set_cons_zero,List.set_cons_succ]
          exact NX
         have N210:∀ (v:World) (bx:Nat) (r70:Value) (x:SRes) (A3:Option Addr) (n3 c3:Nat) (B3:Option Addr) (m3 d3:Nat),XC x→w7.heap.size≤bx→St 38 w7 g p false v [(31,bx,zs)] [(.slice A3 n3 c3,x.lo.m),(.slice B3 m3 d3,x.hi.m)]→G 5 #[true,true,true,true,true,true,true,true,true,true,true,true,true,true,false,false,true,false,false,false] (A (.pointer (some ⟨bx,0,none⟩)) undef r70 (spv x.lo.neg A3 n3 c3 x.lo.e x.hi.neg B3 m3 d3 x.hi.e) undef undef) v:=by
          intro v bx r70 x A3 n3 c3 B3 m3 d3 hx hbx L
          rw [hG,hA]
          simp only [Act.put,List.setIfInBounds_toArray,List.set_cons_zero,List.set_cons_succ]
          refine wpAnyH_ready (rs:=[14,17]) (by kernel_rfl) (by simp) ?_
          refine AllReadyH.cons (o:=⟨some 78,_,_,_,_,_⟩) rfl ?_ ?_
          · intro K hK
            rw [if_pos (by rfl)]
            refine op_call (cPA.out _ _ L.W (FB.out _ _ _ L)) (by kernel_rfl) ?_
            rintro e' v' ⟨A2,n2,c2,B2,m2,d2,rfl,N0,M0,W0,o0⟩
            replace N0:Num _ _ a.m:=N0
            replace M0:Num _ _ a.m:=M0
            replace W0:Wk 38 _ g p false:=W0
            have L1:=((L.only o0 W0).num M0).num N0
            have NX:=N310 _ bx r70 x A3 n3 c3 B3 m3 d3 A2 n2 c2 B2 m2 d2 hx hbx L1
            rw [hG,hA] at NX
            simp only [Act.put,List.setIfInBounds_toArray,List.set_cons_zero,List.set_cons_succ] at NX
            refine ⟨_,rfl,hK.out _ _ (HCO.out _ L1.O) (fun _=>?_)⟩
            simp only [Act.put,List.setIfInBounds_toArray,List.set_cons_zero,List.set_cons_succ]
            exact NX
          refine AllReadyH.cons (o:=⟨some 14,_,_,_,_,_⟩) rfl ?_ AllReadyH.nil
          intro K hK
          rw [if_pos (by rfl)]
          refine op_alloc6_st L rfl (fun bq v' L1 hbq hn=>hK.out _ _ (HCO.out _ L1.O) (fun _=>?_))
          replace L1:=st_swap L1
          have hne:bx≠bq:=hn.1
          have NX:=N211 _ bx bq r70 x A3 n3 c3 B3 m3 d3 hx hbx hbq hne L1
          rw [hG,hA] at NX
          simp only [Act.put,List.setIfInBounds_toArray,List.set_cons_zero,List.set_cons_succ] at NX
          simp only [Act.put,List.setIfInBounds_toArray,List.set_cons_zero,List.set_cons_succ]
          exact NX
         have N200:∀ (v:World) (r70:Value) (x:SRes) (A3:Option Addr) (n3 c3:Nat) (B3:Option Addr) (m3 d3:Nat),XC x→St 38 w7 g p false v [] [(.slice A3 n3 c3,x.lo.m),(.slice B3 m3 d3,x.hi.m)]→G 6 #[true,true,true,true,true,true,true,true,true,true,true,true,true,true,false,false,false,false,false,false] (A undef undef r70 (spv x.lo.neg A3 n3 c3 x.lo.e x.hi.neg B3 m3 d3 x.hi.e) undef undef) v:=by
          intro v r70 x A3 n3 c3 B3 m3 d3 hx L
          rw [hG,hA]
          simp only [Act.put,List.setIfInBounds_toArray,List.set_cons_zero,List.set_cons_succ]
          refine wpAnyH_ready (rs:=[14,16,17]) (by kernel_rfl) (by simp) ?_
          refine AllReadyH.cons (o:=⟨some 78,_,_,_,_,_⟩) rfl ?_ ?_
          · intro K hK
            rw [if_pos (by rfl)]
            refine op_call (cPA.out _ _ L.W (FB.out _ _ _ L)) (by kernel_rfl) ?_
            rintro e' v' ⟨A2,n2,c2,B2,m2,d2,rfl,N0,M0,W0,o0⟩
            replace N0:Num _ _ a.m:=N0
            replace M0:Num _ _ a.m:=M0
            replace W0:Wk 38 _ g p false:=W0
            have L1:=((L.only o0 W0).num M0).num N0
            have NX:=N300 _ r70 x A3 n3 c3 B3 m3 d3 A2 n2 c2 B2 m2 d2 hx L1
            rw [hG,hA] at NX
            simp only [Act.put,List.setIfInBounds_toArray,List.set_cons_zero,List.set_cons_succ] at NX
            refine ⟨_,rfl,hK.out _ _ (HCO.out _ L1.O) (fun _=>?_)⟩
            simp only [Act.put,List.setIfInBounds_toArray,List.set_cons_zero,List.set_cons_succ]
            exact NX
          refine AllReadyH.cons (o:=⟨some 13,_,_,_,_,_⟩) rfl ?_ ?_
          · intro K hK
            rw [if_pos (by rfl)]
            refine op_alloc6_st L rfl (fun bx v' L1 hbx hn=>hK.out _ _ (HCO.out _ L1.O) (fun _=>?_))
            have NX:=N210 _ bx r70 x A3 n3 c3 B3 m3 d3 hx hbx L1
            rw [hG,hA] at NX
            simp only [Act.put,List.setIfInBounds_toArray,List.set_cons_zero,List.set_cons_succ] at NX
            simp only [Act.put,List.setIfInBounds_toArray,List.set_cons_zero,List.set_cons_succ]
            exact NX
          refine AllReadyH.cons (o:=⟨some 14,_,_,_,_,_⟩) rfl ?_ AllReadyH.nil
          intro K hK
          rw [if_pos (by rfl)]
          refine op_alloc6_st L rfl (fun bq v' L1 hbq hn=>hK.out _ _ (HCO.out _ L1.O) (fun _=>?_))
          have NX:=N201 _ bq r70 x A3 n3 c3 B3 m3 d3 hx hbq L1
          rw [hG,hA] at NX
          simp only [Act.put,List.setIfInBounds_toArray,List.set_cons_zero,List.set_cons_succ] at NX
          simp only [Act.put,List.setIfInBounds_toArray,List.set_cons_zero,List.set_cons_succ]
          exact NX
         have N111:∀ (v:World) (bx:Nat) (bq:Nat) (A1:Option Addr) (n1 c1:Nat) (B1:Option Addr) (m1 d1:Nat),w7.heap.size≤bx→w7.heap.size≤bq→bx≠bq→St 38 w7 g p false v [(31,bx,zs),(31,bq,zs)] [(.slice A1 n1 c1,a.m),(.slice B1 m1 d1,a.m)]→G 5 #[true,true,true,true,true,true,true,false,true,true,true,true,true,true,false,false,true,true,false,false] (A (.pointer (some ⟨bx,0,none⟩)) (.pointer (some ⟨bq,0,none⟩)) (spv a.neg A1 n1 c1 a.e a.neg B1 m1 d1 a.e) undef undef undef) v:=by
          intro v bx bq A1 n1 c1 B1 m1 d1 hbx hbq hne L
          rw [hG,hA]
          simp only [Act.put,List.setIfInBounds_toArray,List.set_cons_zero,List.set_cons_succ]
          refine wpAnyH_ready (rs:=[7]) (by kernel_rfl) (by simp) ?_
          refine AllReadyH.cons (o:=⟨some 71,_,_,_,_,_⟩) rfl ?_ AllReadyH.nil
          intro K hK
          rw [if_pos (by rfl)]
          refine op_call (cX.out _ _ _ _ _ _ _ _ L.W (TB.out _ _ _ L) L.ns.1 L.ns.2.1) (by kernel_rfl) ?_
          rintro e' v' ⟨x,hx,xb,A3,n3,c3,B3,m3,d3,rfl,N0,M0,W0,o0⟩
          rw [xb] at W0
          have L1:=((L.only o0 W0).num M0).num N0
          replace L1:=st_n2 L1
          have NX:=N211 _ bx bq (spv a.neg A1 n1 c1 a.e a.neg B1 m1 d1 a.e) x A3 n3 c3 B3 m3 d3 hx hbx hbq hne L1
          rw [hG,hA] at NX
          simp only [Act.put,List.setIfInBounds_toArray,List.set_cons_zero,List.set_cons_succ] at NX
          refine ⟨_,rfl,hK.out _ _ (HCO.out _ L1.O) (fun _=>?_)⟩
          simp only [Act.put,List.setIfInBounds_toArray,List.set_cons_zero,List.set_cons_succ]
          exact NX
         have N101:∀ (v:World) (bq:Nat) (A1:Option Addr) (n1 c1:Nat) (B1:Option Addr) (m1 d1:Nat),w7.heap.size≤bq→St 38 w7 g p false v [(31,bq,zs)] [(.slice A1 n1 c1,a.m),(.slice B1 m1 d1,a.m)]→G 6 #[true,true,true,true,true,true,true,false,true,true,true,true,true,true,false,false,false,true,false,false] (A undef (.pointer (some ⟨bq,0,none⟩)) (spv a.neg A1 n1 c1 a.e a.neg B1 m1 d1 a.e) undef undef undef) v:=by
          intro v bq A1 n1 c1 B1 m1 d1 hbq L
          rw [hG,hA]
          simp only [Act.put,List.setIfInBounds_toArray,List.set_cons_zero,List.set_cons_succ]
          refine wpAnyH_ready (rs:=[7,16]) (by kernel_rfl) (by simp) ?_
          refine AllReadyH.cons (o:=⟨some 71,_,_,_,_,_⟩) rfl ?_ ?_
          · intro K hK
            rw [if_pos (by rfl)]
            refine op_call (cX.out _ _ _ _ _ _ _ _ L.W (TB.out _ _ _ L) L.ns.1 L.ns.2.1) (by kernel_rfl) ?_
            rintro e' v' ⟨x,hx,xb,A3,n3,c3,B3,m3,d3,rfl,N0,M0,W0,o0⟩
            rw [xb] at W0
            have L1:=((L.only o0 W0).num M0).num N0
            replace L1:=st_n2 L1
            have NX:=N201 _ bq (spv a.neg A1 n1 c1 a.e a.neg B1 m1 d1 a.e) x A3 n3 c3 B3 m3 d3 hx hbq L1
            rw [hG,hA] at NX
            simp only [Act.put,List.setIfInBounds_toArray,List.set_cons_zero,List.set_cons_succ] at NX
            refine ⟨_,rfl,hK.out _ _ (HCO.out _ L1.O) (fun _=>?_)⟩
            simp only [Act.put,List.setIfInBounds_toArray,List.set_cons_zero,List.set_cons_succ]
            exact NX
          refine AllReadyH.cons (o:=⟨some 13,_,_,_,_,_⟩) rfl ?_ AllReadyH.nil
          intro K hK
          rw [if_pos (by rfl)]
          refine op_alloc6_st L rfl (fun bx v' L1 hbx hn=>hK.out _ _ (HCO.out _ L1.O) (fun _=>?_))
          have hne:bx≠bq:=Ne.symm hn.1
          have NX:=N111 _ bx bq A1 n1 c1 B1 m1 d1 hbx hbq hne L1
          rw [hG,hA] at NX
          simp only [Act.put,List.setIfInBounds_toArray,List.set_cons_zero,List.set_cons_succ] at NX
          simp only [Act.put,List.setIfInBounds_toArray,List.set_cons_zero,List.set_cons_succ]
          exact NX
         have N110:∀ (v:World) (bx:Nat) (A1:Option Addr) (n1 c1:Nat) (B1:Option Addr) (m1 d1:Nat),w7.heap.size≤bx→St 38 w7 g p false v [(31,bx,zs)] [(.slice A1 n1 c1,a.m),(.slice B1 m1 d1,a.m)]→G 6 #[true,true,true,true,true,true,true,false,true,true,true,true,true,true,false,false,true,false,false,false] (A (.pointer (some ⟨bx,0,none⟩)) undef (spv a.neg A1 n1 c1 a.e a.neg B1 m1 d1 a.e) undef undef undef) v:=by
          intro v bx A1 n1 c1 B1 m1 d1 hbx L
          rw [hG,hA]
          simp only [Act.put,List.setIfInBounds_toArray,List.set_cons_zero,List.set_cons_succ]
          refine wpAnyH_ready (rs:=[7,17]) (by kernel_rfl) (by simp) ?_
          refine AllReadyH.cons (o:=⟨some 71,_,_,_,_,_⟩) rfl ?_ ?_
          · intro K hK
            rw [if_pos (by rfl)]
            refine op_call (cX.out _ _ _ _ _ _ _ _ L.W (TB.out _ _ _ L) L.ns.1 L.ns.2.1) (by kernel_rfl) ?_
            rintro e' v' ⟨x,hx,xb,A3,n3,c3,B3,m3,d3,rfl,N0,M0,W0,o0⟩
            rw [xb] at W0
            have L1:=((L.only o0 W0).num M0).num N0
            replace L1:=st_n2 L1
            have NX:=N210 _ bx (spv a.neg A1 n1 c1 a.e a.neg B1 m1 d1 a.e) x A3 n3 c3 B3 m3 d3 hx hbx L1
            rw [hG,hA] at NX
            simp only [Act.put,List.setIfInBounds_toArray,List.set_cons_zero,List.set_cons_succ] at NX
            refine ⟨_,rfl,hK.out _ _ (HCO.out _ L1.O) (fun _=>?_)⟩
            simp only [Act.put,List.setIfInBounds_toArray,List.set_cons_zero,List.set_cons_succ]
            exact NX
          refine AllReadyH.cons (o:=⟨some 14,_,_,_,_,_⟩) rfl ?_ AllReadyH.nil
          intro K hK
          rw [if_pos (by rfl)]
          refine op_alloc6_st L rfl (fun bq v' L1 hbq hn=>hK.out _ _ (HCO.out _ L1.O) (fun _=>?_))
          replace L1:=st_swap L1
          have hne:bx≠bq:=hn.1
          have NX:=N111 _ bx bq A1 n1 c1 B1 m1 d1 hbx hbq hne L1
          rw [hG,hA] at NX
          simp only [Act.put,List.setIfInBounds_toArray,List.set_cons_zero,List.set_cons_succ] at NX
          simp only [Act.put,List.setIfInBounds_toArray,List.set_cons_zero,List.set_cons_succ]
          exact NX
         have N100:∀ (v:World) (A1:Option Addr) (n1 c1:Nat) (B1:Option Addr) (m1 d1:Nat),St 38 w7 g p false v [] [(.slice A1 n1 c1,a.m),(.slice B1 m1 d1,a.m)]→G 7 #[true,true,true,true,true,true,true,false,true,true,true,true,true,true,false,false,false,false,false,false] (A undef undef (spv a.neg A1 n1 c1 a.e a.neg B1 m1 d1 a.e) undef undef undef) v:=by
          intro v A1 n1 c1 B1 m1 d1 L
          rw [hG,hA]
          simp only [Act.put,List.setIfInBounds_toArray,List.set_cons_zero,List.set_cons_succ]
          refine wpAnyH_ready (rs:=[7,16,17]) (by kernel_rfl) (by simp) ?_
          refine AllReadyH.cons (o:=⟨some 71,_,_,_,_,_⟩) rfl ?_ ?_
          · intro K hK
            rw [if_pos (by rfl)]
            refine op_call (cX.out _ _ _ _ _ _ _ _ L.W (TB.out _ _ _ L) L.ns.1 L.ns.2.1) (by kernel_rfl) ?_
            rintro e' v' ⟨x,hx,xb,A3,n3,c3,B3,m3,d3,rfl,N0,M0,W0,o0⟩
            rw [xb] at W0
            have L1:=((L.only o0 W0).num M0).num N0
            replace L1:=st_n2 L1
            have NX:=N200 _ (spv a.neg A1 n1 c1 a.e a.neg B1 m1 d1 a.e) x A3 n3 c3 B3 m3 d3 hx L1
            rw [hG,hA] at NX
            simp only [Act.put,List.setIfInBounds_toArray,List.set_cons_zero,List.set_cons_succ] at NX
            refine ⟨_,rfl,hK.out _ _ (HCO.out _ L1.O) (fun _=>?_)⟩
            simp only [Act.put,List.setIfInBounds_toArray,List.set_cons_zero,List.set_cons_succ]
            exact NX
          refine AllReadyH.cons (o:=⟨some 13,_,_,_,_,_⟩) rfl ?_ ?_
          · intro K hK
            rw [if_pos (by rfl)]
            refine op_alloc6_st L rfl (fun bx v' L1 hbx hn=>hK.out _ _ (HCO.out _ L1.O) (fun _=>?_))
            have NX:=N110 _ bx A1 n1 c1 B1 m1 d1 hbx L1
            rw [hG,hA] at NX
            simp only [Act.put,List.setIfInBounds_toArray,List.set_cons_zero,List.set_cons_succ] at NX
            simp only [Act.put,List.setIfInBounds_toArray,List.set_cons_zero,List.set_cons_succ]
            exact NX
          refine AllReadyH.cons (o:=⟨some 14,_,_,_,_,_⟩) rfl ?_ AllReadyH.nil
          intro K hK
          rw [if_pos (by rfl)]
          refine op_alloc6_st L rfl (fun bq v' L1 hbq hn=>hK.out _ _ (HCO.out _ L1.O) (fun _=>?_))
          have NX:=N101 _ bq A1 n1 c1 B1 m1 d1 hbq L1
          rw [hG,hA] at NX
          simp only [Act.put,List.setIfInBounds_toArray,List.set_cons_zero,List.set_cons_succ] at NX
          simp only [Act.put,List.setIfInBounds_toArray,List.set_cons_zero,List.set_cons_succ]
          exact NX
         have N011:∀ (v:World) (bx:Nat) (bq:Nat),w7.heap.size≤bx→w7.heap.size≤bq→bx≠bq→St 38 w7 g p false v [(31,bx,zs),(31,bq,zs)] []→G 6 #[true,true,true,true,true,true,false,false,true,true,true,true,true,true,false,false,true,true,false,false] (A (.pointer (some ⟨bx,0,none⟩)) (.pointer (some ⟨bq,0,none⟩)) undef undef undef undef) v:=by
          intro v bx bq hbx hbq hne L
          rw [hG,hA]
          simp only [Act.put,List.setIfInBounds_toArray,List.set_cons_zero,List.set_cons_succ]
          refine wpAnyH_ready (rs:=[6]) (by kernel_rfl) (by simp) ?_
          refine AllReadyH.cons (o:=⟨some 70,_,_,_,_,_⟩) rfl ?_ AllReadyH.nil
          intro K hK
          rw [if_pos (by rfl)]
          refine op_call (cPA.out _ _ L.W (FB.out _ _ _ L)) (by kernel_rfl) ?_
          rintro e' v' ⟨A1,n1,c1,B1,m1,d1,rfl,N0,M0,W0,o0⟩
          replace N0:Num _ _ a.m:=N0
          replace M0:Num _ _ a.m:=M0
          replace W0:Wk 38 _ g p false:=W0
          have L1:=((L.only o0 W0).num M0).num N0
          have NX:=N111 _ bx bq A1 n1 c1 B1 m1 d1 hbx hbq hne L1
          rw [hG,hA] at NX
          simp only [Act.put,List.setIfInBounds_toArray,List.set_cons_zero,List.set_cons_succ] at NX
          refine ⟨_,rfl,hK.out _ _ (HCO.out _ L1.O) (fun _=>?_)⟩
          simp only [Act.put,List.setIfInBounds_toArray,List.set_cons_zero,List.set_cons_succ]
          exact NX
         have N001:∀ (v:World) (bq:Nat),w7.heap.size≤bq→St 38 w7 g p false v [(31,bq,zs)] []→G 7 #[true,true,true,true,true,true,false,false,true,true,true,true,true,true,false,false,false,true,false,false] (A undef (.pointer (some ⟨bq,0,none⟩)) undef undef undef undef) v:=by
          intro v bq hbq L
          rw [hG,hA]
          simp only [Act.put,List.setIfInBounds_toArray,List.set_cons_zero,List.set_cons_succ]
          refine wpAnyH_ready (rs:=[6,16]) (by kernel_rfl) (by simp) ?_
          refine AllReadyH.cons (o:=⟨some 70,_,_,_,_,_⟩) rfl ?_ ?_
          · intro K hK
            rw [if_pos (by rfl)]
            refine op_call (cPA.out _ _ L.W (FB.out _ _ _ L)) (by kernel_rfl) ?_
            rintro e' v' ⟨A1,n1,c1,B1,m1,d1,rfl,N0,M0,W0,o0⟩
            replace N0:Num _ _ a.m:=N0
            replace M0:Num _ _ a.m:=M0
            replace W0:Wk 38 _ g p false:=W0
            have L1:=((L.only o0 W0).num M0).num N0
            have NX:=N101 _ bq A1 n1 c1 B1 m1 d1 hbq L1
            rw [hG,hA] at NX
            simp only [Act.put,List.setIfInBounds_toArray,List.set_cons_zero,List.set_cons_succ] at NX
            refine ⟨_,rfl,hK.out _ _ (HCO.out _ L1.O) (fun _=>?_)⟩
            simp only [Act.put,List.setIfInBounds_toArray,List.set_cons_zero,List.set_cons_succ]
            exact NX
          refine AllReadyH.cons (o:=⟨some 13,_,_,_,_,_⟩) rfl ?_ AllReadyH.nil
          intro K hK
          rw [if_pos (by rfl)]
          refine op_alloc6_st L rfl (fun bx v' L1 hbx hn=>hK.out _ _ (HCO.out _ L1.O) (fun _=>?_))
          have hne:bx≠bq:=Ne.symm hn.1
          have NX:=N011 _ bx bq hbx hbq hne L1
          rw [hG,hA] at NX
          simp only [Act.put,List.setIfInBounds_toArray,List.set_cons_zero,List.set_cons_succ] at NX
          simp only [Act.put,List.setIfInBounds_toArray,List.set_cons_zero,List.set_cons_succ]
          exact NX
         have N010:∀ (v:World) (bx:Nat),w7.heap.size≤bx→St 38 w7 g p false v [(31,bx,zs)] []→G 7 #[true,true,true,true,true,true,false,false,true,true,true,true,true,true,false,false,true,false,false,false] (A (.pointer (some ⟨bx,0,none⟩)) undef undef undef undef undef) v:=by
          intro v bx hbx L
          rw [hG,hA]
          simp only [Act.put,List.setIfInBounds_toArray,List.set_cons_zero,List.set_cons_succ]
          refine wpAnyH_ready (rs:=[6,17]) (by kernel_rfl) (by simp) ?_
          refine AllReadyH.cons (o:=⟨some 70,_,_,_,_,_⟩) rfl ?_ ?_
          · intro K hK
            rw [if_pos (by rfl)]
            refine op_call (cPA.out _ _ L.W (FB.out _ _ _ L)) (by kernel_rfl) ?_
            rintro e' v' ⟨A1,n1,c1,B1,m1,d1,rfl,N0,M0,W0,o0⟩
            replace N0:Num _ _ a.m:=N0
            replace M0:Num _ _ a.m:=M0
            replace W0:Wk 38 _ g p false:=W0
            have L1:=((L.only o0 W0).num M0).num N0
            have NX:=N110 _ bx A1 n1 c1 B1 m1 d1 hbx L1
            rw [hG,hA] at NX
            simp only [Act.put,List.setIfInBounds_toArray,List.set_cons_zero,List.set_cons_succ] at NX
            refine ⟨_,rfl,hK.out _ _ (HCO.out _ L1.O) (fun _=>?_)⟩
            simp only [Act.put,List.setIfInBounds_toArray,List.set_cons_zero,List.set_cons_succ]
            exact NX
          refine AllReadyH.cons (o:=⟨some 14,_,_,_,_,_⟩) rfl ?_ AllReadyH.nil
          intro K hK
          rw [if_pos (by rfl)]
          refine op_alloc6_st L rfl (fun bq v' L1 hbq hn=>hK.out _ _ (HCO.out _ L1.O) (fun _=>?_))
          replace L1:=st_swap L1
          have hne:bx≠bq:=hn.1
          have NX:=N011 _ bx bq hbx hbq hne L1
          rw [hG,hA] at NX
          simp only [Act.put,List.setIfInBounds_toArray,List.set_cons_zero,List.set_cons_succ] at NX
          simp only [Act.put,List.setIfInBounds_toArray,List.set_cons_zero,List.set_cons_succ]
          exact NX
         have N000:∀ (v:World),St 38 w7 g p false v [] []→G 8 #[true,true,true,true,true,true,false,false,true,true,true,true,true,true,false,false,false,false,false,false] (A undef undef undef undef undef undef) v:=by
          intro v L
          rw [hG,hA]
          simp only [Act.put,List.setIfInBounds_toArray,List.set_cons_zero,List.set_cons_succ]
          refine wpAnyH_ready (rs:=[6,16,17]) (by kernel_rfl) (by simp) ?_
          refine AllReadyH.cons (o:=⟨some 70,_,_,_,_,_⟩) rfl ?_ ?_
          · intro K hK
            rw [if_pos (by rfl)]
            refine op_call (cPA.out _ _ L.W (FB.out _ _ _ L)) (by kernel_rfl) ?_
            rintro e' v' ⟨A1,n1,c1,B1,m1,d1,rfl,N0,M0,W0,o0⟩
            replace N0:Num _ _ a.m:=N0
            replace M0:Num _ _ a.m:=M0
            replace W0:Wk 38 _ g p false:=W0
            have L1:=((L.only o0 W0).num M0).num N0
            have NX:=N100 _ A1 n1 c1 B1 m1 d1  L1
            rw [hG,hA] at NX
            simp only [Act.put,List.setIfInBounds_toArray,List.set_cons_zero,List.set_cons_succ] at NX
            refine ⟨_,rfl,hK.out _ _ (HCO.out _ L1.O) (fun _=>?_)⟩
            simp only [Act.put,List.setIfInBounds_toArray,List.set_cons_zero,List.set_cons_succ]
            exact NX
          refine AllReadyH.cons (o:=⟨some 13,_,_,_,_,_⟩) rfl ?_ ?_
          · intro K hK
            rw [if_pos (by rfl)]
            refine op_alloc6_st L rfl (fun bx v' L1 hbx hn=>hK.out _ _ (HCO.out _ L1.O) (fun _=>?_))
            have NX:=N010 _ bx hbx L1
            rw [hG,hA] at NX
            simp only [Act.put,List.setIfInBounds_toArray,List.set_cons_zero,List.set_cons_succ] at NX
            simp only [Act.put,List.setIfInBounds_toArray,List.set_cons_zero,List.set_cons_succ]
            exact NX
          refine AllReadyH.cons (o:=⟨some 14,_,_,_,_,_⟩) rfl ?_ AllReadyH.nil
          intro K hK
          rw [if_pos (by rfl)]
          refine op_alloc6_st L rfl (fun bq v' L1 hbq hn=>hK.out _ _ (HCO.out _ L1.O) (fun _=>?_))
          have NX:=N001 _ bq hbq L1
          rw [hG,hA] at NX
          simp only [Act.put,List.setIfInBounds_toArray,List.set_cons_zero,List.set_cons_succ] at NX
          simp only [Act.put,List.setIfInBounds_toArray,List.set_cons_zero,List.set_cons_succ]
          exact NX
         exact N000 _ S
       case rest =>
        obtain ⟨x,y,a13,a14,A3,n3,c3,B3,m3,d3,A4,n4,c4,B4,m4,d4,rfl,rfl,h13,h14,h1314,hx,hy,S⟩:=hcut
        clear cX cY XS
        go_upto_region 16 with fail
        replace S:=S.drew
        go_cut [15] (fun s15 wx=>∃ (o:SRes) (a15:Nat) (A7:Option Addr) (n7 c7:Nat) (B7:Option Addr) (m7 d7:Nat),s15=.pointer (some ⟨a15,0,none⟩)∧w7.heap.size≤a15∧ON o∧St 38 w7 g p false wx [(31,a15,#[.bool o.lo.neg,.slice A7 n7 c7,.int .i64 o.lo.e,.bool o.hi.neg,.slice B7 m7 d7,.int .i64 o.hi.e])] [(.slice A7 n7 c7,o.lo.m),(.slice B7 m7 d7,o.hi.m)])
        case first =>
         have XS:KC 31 _ a13 #[.bool x.lo.neg,.slice A3 n3 c3,.int .i64 x.lo.e,.bool x.hi.neg,.slice B3 m3 d3,.int .i64 x.hi.e]∧KC 31 _ a14 #[.bool y.lo.neg,.slice A4 n4 c4,.int .i64 y.lo.e,.bool y.hi.neg,.slice B4 m4 d4,.int .i64 y.hi.e]:=⟨S.ks.1.1,S.ks.2.1.1⟩
         clear cSum cPt cOne cME cES cEA cEB cMU cMS cPA cPB abk HT FB HCO
         as_aux_lemma =>
          refine hw_start (S:=fun w'=>KC 31 w' a13 #[.bool x.lo.neg,.slice A3 n3 c3,.int .i64 x.lo.e,.bool x.hi.neg,.slice B3 m3 d3,.int .i64 x.hi.e]∧KC 31 w' a14 #[.bool y.lo.neg,.slice A4 n4 c4,.int .i64 y.lo.e,.bool y.hi.neg,.slice B4 m4 d4,.int .i64 y.hi.e]) 21 #[false,false,false,false,false,false,false,false,false,false,false,false,false,false,false,false,false,false,false,false,false] (by kernel_rfl) (by kernel_rfl) (by kernel_rfl) XS ?_
          refine wpAnyH_take (i:=0) (oi:=⟨some 80,_,_,_,_,_⟩) (v:=.pointer (some ⟨g,0,none⟩)) rfl (by kernel_rfl) (by kernel_rfl) (by kernel_rfl) (fun _ _ _ h=>h) (yields_pure (by rfl) (fun w=>by kernel_rfl)) XS ?_
          simp only [Act.put,List.setIfInBounds_toArray,List.set_cons_zero,List.set_cons_succ]
          refine wpAnyH_take (i:=1) (oi:=⟨some 81,_,_,_,_,_⟩) (v:=.pointer (some ⟨g,0,none⟩)) rfl (by kernel_rfl) (by kernel_rfl) (by kernel_rfl) (fun _ _ _ h=>h) (yields_pure (by rfl) (fun w=>by kernel_rfl)) XS ?_
          simp only [Act.put,List.setIfInBounds_toArray,List.set_cons_zero,List.set_cons_succ]
          refine wpAnyH_take (i:=2) (oi:=⟨some 82,_,_,_,_,_⟩) (v:=.pointer (some ⟨g,0,none⟩)) rfl (by kernel_rfl) (by kernel_rfl) (by kernel_rfl) (fun _ _ _ h=>h) (yields_pure (by rfl) (fun w=>by kernel_rfl)) XS ?_
          simp only [Act.put,List.setIfInBounds_toArray,List.set_cons_zero,List.set_cons_succ]
          refine wpAnyH_take (i:=3) (oi:=⟨some 83,_,_,_,_,_⟩) (v:=.pointer (some ⟨g,0,none⟩)) rfl (by kernel_rfl) (by kernel_rfl) (by kernel_rfl) (fun _ _ _ h=>h) (yields_pure (by rfl) (fun w=>by kernel_rfl)) XS ?_
          simp only [Act.put,List.setIfInBounds_toArray,List.set_cons_zero,List.set_cons_succ]
          refine wpAnyH_take (i:=4) (oi:=⟨some 84,_,_,_,_,_⟩) (v:=.pointer (some ⟨g,0,none⟩)) rfl (by kernel_rfl) (by kernel_rfl) (by kernel_rfl) (fun _ _ _ h=>h) (yields_pure (by rfl) (fun w=>by kernel_rfl)) XS ?_
          simp only [Act.put,List.setIfInBounds_toArray,List.set_cons_zero,List.set_cons_succ]
          refine wpAnyH_take (i:=5) (oi:=⟨some 85,_,_,_,_,_⟩) (v:=.pointer (some ⟨g,0,none⟩)) rfl (by kernel_rfl) (by kernel_rfl) (by kernel_rfl) (fun _ _ _ h=>h) (yields_pure (by rfl) (fun w=>by kernel_rfl)) XS ?_
          simp only [Act.put,List.setIfInBounds_toArray,List.set_cons_zero,List.set_cons_succ]
          refine wpAnyH_take (i:=6) (oi:=⟨some 86,_,_,_,_,_⟩) (v:=.pointer (some ⟨g,0,none⟩)) rfl (by kernel_rfl) (by kernel_rfl) (by kernel_rfl) (fun _ _ _ h=>h) (yields_pure (by rfl) (fun w=>by kernel_rfl)) XS ?_
          simp only [Act.put,List.setIfInBounds_toArray,List.set_cons_zero,List.set_cons_succ]
          refine wpAnyH_take (i:=7) (oi:=⟨some 87,_,_,_,_,_⟩) (v:=.pointer (some ⟨g,0,none⟩)) rfl (by kernel_rfl) (by kernel_rfl) (by kernel_rfl) (fun _ _ _ h=>h) (yields_pure (by rfl) (fun w=>by kernel_rfl)) XS ?_
          simp only [Act.put,List.setIfInBounds_toArray,List.set_cons_zero,List.set_cons_succ]
          refine wpAnyH_take (i:=8) (oi:=⟨some 88,_,_,_,_,_⟩) (v:=.agg #[.bool x.lo.neg,.slice A3 n3 c3,.int .i64 x.lo.e,.bool x.hi.neg,.slice B3 m3 d3,.int .i64 x.hi.e]) rfl (by kernel_rfl) (by kernel_rfl) (by kernel_rfl) (fun _ _ _ h=>h) (yields_span (by rfl) _ rfl (a13) rfl (fun _ h=>h.1)) XS ?_
          simp only [Act.put,List.setIfInBounds_toArray,List.set_cons_zero,List.set_cons_succ]
          refine wpAnyH_take (i:=9) (oi:=⟨some 89,_,_,_,_,_⟩) (v:=.agg #[.bool x.lo.neg,.slice A3 n3 c3,.int .i64 x.lo.e,.bool x.hi.neg,.slice B3 m3 d3,.int .i64 x.hi.e]) rfl (by kernel_rfl) (by kernel_rfl) (by kernel_rfl) (fun _ _ _ h=>h) (yields_span (by rfl) _ rfl (a13) rfl (fun _ h=>h.1)) XS ?_
          simp only [Act.put,List.setIfInBounds_toArray,List.set_cons_zero,List.set_cons_succ]
          refine wpAnyH_take (i:=11) (oi:=⟨some 91,_,_,_,_,_⟩) (v:=.pointer (some ⟨g,0,none⟩)) rfl (by kernel_rfl) (by kernel_rfl) (by kernel_rfl) (fun _ _ _ h=>h) (yields_pure (by rfl) (fun w=>by kernel_rfl)) XS ?_
          simp only [Act.put,List.setIfInBounds_toArray,List.set_cons_zero,List.set_cons_succ]
          refine wpAnyH_take (i:=12) (oi:=⟨some 92,_,_,_,_,_⟩) (v:=.pointer (some ⟨g,0,none⟩)) rfl (by kernel_rfl) (by kernel_rfl) (by kernel_rfl) (fun _ _ _ h=>h) (yields_pure (by rfl) (fun w=>by kernel_rfl)) XS ?_
          simp only [Act.put,List.setIfInBounds_toArray,List.set_cons_zero,List.set_cons_succ]
          refine wpAnyH_take (i:=13) (oi:=⟨some 93,_,_,_,_,_⟩) (v:=.pointer (some ⟨g,0,none⟩)) rfl (by kernel_rfl) (by kernel_rfl) (by kernel_rfl) (fun _ _ _ h=>h) (yields_pure (by rfl) (fun w=>by kernel_rfl)) XS ?_
          simp only [Act.put,List.setIfInBounds_toArray,List.set_cons_zero,List.set_cons_succ]
          refine wpAnyH_take (i:=14) (oi:=⟨some 94,_,_,_,_,_⟩) (v:=.pointer (some ⟨g,0,none⟩)) rfl (by kernel_rfl) (by kernel_rfl) (by kernel_rfl) (fun _ _ _ h=>h) (yields_pure (by rfl) (fun w=>by kernel_rfl)) XS ?_
          simp only [Act.put,List.setIfInBounds_toArray,List.set_cons_zero,List.set_cons_succ]
          refine wpAnyH_take (i:=15) (oi:=⟨some 95,_,_,_,_,_⟩) (v:=.agg #[.bool y.lo.neg,.slice A4 n4 c4,.int .i64 y.lo.e,.bool y.hi.neg,.slice B4 m4 d4,.int .i64 y.hi.e]) rfl (by kernel_rfl) (by kernel_rfl) (by kernel_rfl) (fun _ _ _ h=>h) (yields_span (by rfl) _ rfl (a14) rfl (fun _ h=>h.2)) XS ?_
          simp only [Act.put,List.setIfInBounds_toArray,List.set_cons_zero,List.set_cons_succ]
          refine wpAnyH_take (i:=16) (oi:=⟨some 96,_,_,_,_,_⟩) (v:=.agg #[.bool y.lo.neg,.slice A4 n4 c4,.int .i64 y.lo.e,.bool y.hi.neg,.slice B4 m4 d4,.int .i64 y.hi.e]) rfl (by kernel_rfl) (by kernel_rfl) (by kernel_rfl) (fun _ _ _ h=>h) (yields_span (by rfl) _ rfl (a14) rfl (fun _ h=>h.2)) XS ?_
          simp only [Act.put,List.setIfInBounds_toArray,List.set_cons_zero,List.set_cons_succ]
          refine wpAnyH_ready (rs:=[10,19]) (by kernel_rfl) (by simp) ?_
          refine AllReadyH.cons (o:=⟨some 90,_,_,_,_,_⟩) rfl ?_ ?_
          · intro K hK
            rw [if_pos (by rfl)]
            refine op_call (cM1.out _ _ _ _ _ _ _ _ _ _ _ _ _ _ _ hx S.W (TB.out _ _ _ S) S.ns.2.2.1 S.ns.2.2.2.1 S.ns.2.2.1 S.ns.2.2.2.1) (by kernel_rfl) ?_
            rintro e' v1 ⟨u,hu,ub,A5,n5,c5,B5,m5,d5,rfl,N0,M0,W0,o0⟩
            rw [ub] at W0
            have L1:=((S.only o0 W0).num M0).num N0
            refine ⟨_,rfl,hK.out _ _ (⟨L1.ks.1.1,L1.ks.2.1.1⟩) (fun hS1=>?_)⟩
            clear N0 M0 W0 o0  XS ub
            clear hK K
            simp only [Act.put,List.setIfInBounds_toArray,List.set_cons_zero,List.set_cons_succ]
            refine wpAnyH_ready (rs:=[17,19]) (by kernel_rfl) (by simp) ?_
            refine AllReadyH.cons (o:=⟨some 97,_,_,_,_,_⟩) rfl ?_ ?_
            · intro K hK
              rw [if_pos (by rfl)]
              refine op_call (cM2.out _ _ _ _ _ _ _ _ _ _ _ _ _ _ _ hy L1.W (TB.out _ _ _ L1) L1.ns.2.2.1 L1.ns.2.2.2.1 L1.ns.2.2.1 L1.ns.2.2.2.1) (by kernel_rfl) ?_
              rintro e' v2 ⟨v,hv,vb,A6,n6,c6,B6,m6,d6,rfl,N0,M0,W0,o0⟩
              rw [vb] at W0
              have L2:=((L1.only o0 W0).num M0).num N0
              refine ⟨_,rfl,hK.out _ _ (⟨L2.ks.1.1,L2.ks.2.1.1⟩) (fun hS2=>?_)⟩
              clear N0 M0 W0 o0 L1 hS1 vb
              clear hK K
              simp only [Act.put,List.setIfInBounds_toArray,List.set_cons_zero,List.set_cons_succ]
              refine wpAnyH_ready (rs:=[18,19]) (by kernel_rfl) (by simp) ?_
              refine AllReadyH.cons (o:=⟨some 98,_,_,_,_,_⟩) rfl ?_ ?_
              · intro K hK
                rw [if_pos (by rfl)]
                refine op_call (cON.out _ _ _ _ _ _ _ _ _ _ _ _ _ _ _ _ hu hv L2.W (TB.out _ _ _ L2) L2.ns.2.2.1 L2.ns.2.2.2.1 L2.ns.1 L2.ns.2.1) (by kernel_rfl) ?_
                rintro e' v3 ⟨o,ho,ob,A7,n7,c7,B7,m7,d7,rfl,N0,M0,W0,o0⟩
                rw [ob] at W0
                have L3:=((L2.only o0 W0).num M0).num N0
                refine ⟨_,rfl,hK.out _ _ (⟨L3.ks.1.1,L3.ks.2.1.1⟩) (fun hS3=>?_)⟩
                clear N0 M0 W0 o0 L2 hS2 ob
                clear hK K
                simp only [Act.put,List.setIfInBounds_toArray,List.set_cons_zero,List.set_cons_succ]
                refine wpAnyH_ready (rs:=[19]) (by kernel_rfl) (by simp) ?_
                refine AllReadyH.cons (o:=⟨some 15,_,_,_,_,_⟩) rfl ?_ AllReadyH.nil
                intro K hK
                rw [if_pos (by rfl)]
                refine op_alloc6_st L3 rfl (fun bo v4 L4 hbo nbo=>hK.out _ _ (⟨L4.ks.2.1.1,L4.ks.2.2.1.1⟩) (fun hS4=>?_))
                clear L3 hS3
                clear hK K
                simp only [Act.put,List.setIfInBounds_toArray,List.set_cons_zero,List.set_cons_succ]
                refine wpAnyH_ready (rs:=[20]) (by kernel_rfl) (by simp) ?_
                refine AllReadyH.cons (o:=⟨none,_,_,_,_,_⟩) rfl ?_ AllReadyH.nil
                intro K hK
                rw [if_pos (by rfl)]
                refine op_store6_any _ _ rfl bo rfl rfl (L4.ks.1.1) (st_store1w L4 hbo nbo (.bool o.lo.neg) (.slice A7 n7 c7) (.int .i64 o.lo.e) (.bool o.hi.neg) (.slice B7 m7 d7) (.int .i64 o.hi.e)) ?_
                intro v5 L5
                replace L5:=L5.out
                refine hK.out _ _ (⟨L5.ks.2.1.1,L5.ks.2.2.1.1⟩) ?_
                intro hS5
                clear L4 hS4
                clear hK K
                simp only [Act.put,List.setIfInBounds_toArray,List.set_cons_zero,List.set_cons_succ]
                refine wpAnyH_done (by kernel_rfl) ?_ _
                have LE:=st_n2 (st_k1 L5)
                clear L5 hS5
                go_wp2_with fail
                go_meet
                exact ⟨o,bo,A7,n7,c7,B7,m7,d7,rfl,hbo,ho,LE⟩
              refine AllReadyH.cons (o:=⟨some 15,_,_,_,_,_⟩) rfl ?_ AllReadyH.nil
              intro K hK
              rw [if_pos (by rfl)]
              refine op_alloc6_st L2 rfl (fun bo v3 L3 hbo nbo=>hK.out _ _ (⟨L3.ks.2.1.1,L3.ks.2.2.1.1⟩) (fun hS3=>?_))
              clear L2 hS2
              clear hK K
              simp only [Act.put,List.setIfInBounds_toArray,List.set_cons_zero,List.set_cons_succ]
              refine wpAnyH_ready (rs:=[18]) (by kernel_rfl) (by simp) ?_
              refine AllReadyH.cons (o:=⟨some 98,_,_,_,_,_⟩) rfl ?_ AllReadyH.nil
              intro K hK
              rw [if_pos (by rfl)]
              refine op_call (cON.out _ _ _ _ _ _ _ _ _ _ _ _ _ _ _ _ hu hv L3.W (TB.out _ _ _ L3) L3.ns.2.2.1 L3.ns.2.2.2.1 L3.ns.1 L3.ns.2.1) (by kernel_rfl) ?_
              rintro e' v4 ⟨o,ho,ob,A7,n7,c7,B7,m7,d7,rfl,N0,M0,W0,o0⟩
              rw [ob] at W0
              have L4:=((L3.only o0 W0).num M0).num N0
              refine ⟨_,rfl,hK.out _ _ (⟨L4.ks.2.1.1,L4.ks.2.2.1.1⟩) (fun hS4=>?_)⟩
              clear N0 M0 W0 o0 L3 hS3 ob
              clear hK K
              simp only [Act.put,List.setIfInBounds_toArray,List.set_cons_zero,List.set_cons_succ]
              refine wpAnyH_ready (rs:=[20]) (by kernel_rfl) (by simp) ?_
              refine AllReadyH.cons (o:=⟨none,_,_,_,_,_⟩) rfl ?_ AllReadyH.nil
              intro K hK
              rw [if_pos (by rfl)]
              refine op_store6_any _ _ rfl bo rfl rfl (L4.ks.1.1) (st_store1w L4 hbo nbo (.bool o.lo.neg) (.slice A7 n7 c7) (.int .i64 o.lo.e) (.bool o.hi.neg) (.slice B7 m7 d7) (.int .i64 o.hi.e)) ?_
              intro v5 L5
              replace L5:=L5.out
              refine hK.out _ _ (⟨L5.ks.2.1.1,L5.ks.2.2.1.1⟩) ?_
              intro hS5
              clear L4 hS4
              clear hK K
              simp only [Act.put,List.setIfInBounds_toArray,List.set_cons_zero,List.set_cons_succ]
              refine wpAnyH_done (by kernel_rfl) ?_ _
              have LE:=st_n2 (st_k1 L5)
              clear L5 hS5
              go_wp2_with fail
              go_meet
              exact ⟨o,bo,A7,n7,c7,B7,m7,d7,rfl,hbo,ho,LE⟩
            refine AllReadyH.cons (o:=⟨some 15,_,_,_,_,_⟩) rfl ?_ AllReadyH.nil
            intro K hK
            rw [if_pos (by rfl)]
            refine op_alloc6_st L1 rfl (fun bo v2 L2 hbo nbo=>hK.out _ _ (⟨L2.ks.2.1.1,L2.ks.2.2.1.1⟩) (fun hS2=>?_))
            clear L1 hS1
            clear hK K
            simp only [Act.put,List.setIfInBounds_toArray,List.set_cons_zero,List.set_cons_succ]
            refine wpAnyH_ready (rs:=[17]) (by kernel_rfl) (by simp) ?_
            refine AllReadyH.cons (o:=⟨some 97,_,_,_,_,_⟩) rfl ?_ AllReadyH.nil
            intro K hK
            rw [if_pos (by rfl)]
            refine op_call (cM2.out _ _ _ _ _ _ _ _ _ _ _ _ _ _ _ hy L2.W (TB.out _ _ _ L2) L2.ns.2.2.1 L2.ns.2.2.2.1 L2.ns.2.2.1 L2.ns.2.2.2.1) (by kernel_rfl) ?_
            rintro e' v3 ⟨v,hv,vb,A6,n6,c6,B6,m6,d6,rfl,N0,M0,W0,o0⟩
            rw [vb] at W0
            have L3:=((L2.only o0 W0).num M0).num N0
            refine ⟨_,rfl,hK.out _ _ (⟨L3.ks.2.1.1,L3.ks.2.2.1.1⟩) (fun hS3=>?_)⟩
            clear N0 M0 W0 o0 L2 hS2 vb
            clear hK K
            simp only [Act.put,List.setIfInBounds_toArray,List.set_cons_zero,List.set_cons_succ]
            refine wpAnyH_ready (rs:=[18]) (by kernel_rfl) (by simp) ?_
            refine AllReadyH.cons (o:=⟨some 98,_,_,_,_,_⟩) rfl ?_ AllReadyH.nil
            intro K hK
            rw [if_pos (by rfl)]
            refine op_call (cON.out _ _ _ _ _ _ _ _ _ _ _ _ _ _ _ _ hu hv L3.W (TB.out _ _ _ L3) L3.ns.2.2.1 L3.ns.2.2.2.1 L3.ns.1 L3.ns.2.1) (by kernel_rfl) ?_
            rintro e' v4 ⟨o,ho,ob,A7,n7,c7,B7,m7,d7,rfl,N0,M0,W0,o0⟩
            rw [ob] at W0
            have L4:=((L3.only o0 W0).num M0).num N0
            refine ⟨_,rfl,hK.out _ _ (⟨L4.ks.2.1.1,L4.ks.2.2.1.1⟩) (fun hS4=>?_)⟩
            clear N0 M0 W0 o0 L3 hS3 ob
            clear hK K
            simp only [Act.put,List.setIfInBounds_toArray,List.set_cons_zero,List.set_cons_succ]
            refine wpAnyH_ready (rs:=[20]) (by kernel_rfl) (by simp) ?_
            refine AllReadyH.cons (o:=⟨none,_,_,_,_,_⟩) rfl ?_ AllReadyH.nil
            intro K hK
            rw [if_pos (by rfl)]
            refine op_store6_any _ _ rfl bo rfl rfl (L4.ks.1.1) (st_store1w L4 hbo nbo (.bool o.lo.neg) (.slice A7 n7 c7) (.int .i64 o.lo.e) (.bool o.hi.neg) (.slice B7 m7 d7) (.int .i64 o.hi.e)) ?_
            intro v5 L5
            replace L5:=L5.out
            refine hK.out _ _ (⟨L5.ks.2.1.1,L5.ks.2.2.1.1⟩) ?_
            intro hS5
            clear L4 hS4
            clear hK K
            simp only [Act.put,List.setIfInBounds_toArray,List.set_cons_zero,List.set_cons_succ]
            refine wpAnyH_done (by kernel_rfl) ?_ _
            have LE:=st_n2 (st_k1 L5)
            clear L5 hS5
            go_wp2_with fail
            go_meet
            exact ⟨o,bo,A7,n7,c7,B7,m7,d7,rfl,hbo,ho,LE⟩
          refine AllReadyH.cons (o:=⟨some 15,_,_,_,_,_⟩) rfl ?_ AllReadyH.nil
          intro K hK
          rw [if_pos (by rfl)]
          refine op_alloc6_st S rfl (fun bo v1 L1 hbo nbo=>hK.out _ _ (⟨L1.ks.2.1.1,L1.ks.2.2.1.1⟩) (fun hS1=>?_))
          clear  XS
          clear hK K
          simp only [Act.put,List.setIfInBounds_toArray,List.set_cons_zero,List.set_cons_succ]
          refine wpAnyH_ready (rs:=[10]) (by kernel_rfl) (by simp) ?_
          refine AllReadyH.cons (o:=⟨some 90,_,_,_,_,_⟩) rfl ?_ AllReadyH.nil
          intro K hK
          rw [if_pos (by rfl)]
          refine op_call (cM1.out _ _ _ _ _ _ _ _ _ _ _ _ _ _ _ hx L1.W (TB.out _ _ _ L1) L1.ns.2.2.1 L1.ns.2.2.2.1 L1.ns.2.2.1 L1.ns.2.2.2.1) (by kernel_rfl) ?_
          rintro e' v2 ⟨u,hu,ub,A5,n5,c5,B5,m5,d5,rfl,N0,M0,W0,o0⟩
          rw [ub] at W0
          have L2:=((L1.only o0 W0).num M0).num N0
          refine ⟨_,rfl,hK.out _ _ (⟨L2.ks.2.1.1,L2.ks.2.2.1.1⟩) (fun hS2=>?_)⟩
          clear N0 M0 W0 o0 L1 hS1 ub
          clear hK K
          simp only [Act.put,List.setIfInBounds_toArray,List.set_cons_zero,List.set_cons_succ]
          refine wpAnyH_ready (rs:=[17]) (by kernel_rfl) (by simp) ?_
          refine AllReadyH.cons (o:=⟨some 97,_,_,_,_,_⟩) rfl ?_ AllReadyH.nil
          intro K hK
          rw [if_pos (by rfl)]
          refine op_call (cM2.out _ _ _ _ _ _ _ _ _ _ _ _ _ _ _ hy L2.W (TB.out _ _ _ L2) L2.ns.2.2.1 L2.ns.2.2.2.1 L2.ns.2.2.1 L2.ns.2.2.2.1) (by kernel_rfl) ?_
          rintro e' v3 ⟨v,hv,vb,A6,n6,c6,B6,m6,d6,rfl,N0,M0,W0,o0⟩
          rw [vb] at W0
          have L3:=((L2.only o0 W0).num M0).num N0
          refine ⟨_,rfl,hK.out _ _ (⟨L3.ks.2.1.1,L3.ks.2.2.1.1⟩) (fun hS3=>?_)⟩
          clear N0 M0 W0 o0 L2 hS2 vb
          clear hK K
          simp only [Act.put,List.setIfInBounds_toArray,List.set_cons_zero,List.set_cons_succ]
          refine wpAnyH_ready (rs:=[18]) (by kernel_rfl) (by simp) ?_
          refine AllReadyH.cons (o:=⟨some 98,_,_,_,_,_⟩) rfl ?_ AllReadyH.nil
          intro K hK
          rw [if_pos (by rfl)]
          refine op_call (cON.out _ _ _ _ _ _ _ _ _ _ _ _ _ _ _ _ hu hv L3.W (TB.out _ _ _ L3) L3.ns.2.2.1 L3.ns.2.2.2.1 L3.ns.1 L3.ns.2.1) (by kernel_rfl) ?_
          rintro e' v4 ⟨o,ho,ob,A7,n7,c7,B7,m7,d7,rfl,N0,M0,W0,o0⟩
          rw [ob] at W0
          have L4:=((L3.only o0 W0).num M0).num N0
          refine ⟨_,rfl,hK.out _ _ (⟨L4.ks.2.1.1,L4.ks.2.2.1.1⟩) (fun hS4=>?_)⟩
          clear N0 M0 W0 o0 L3 hS3 ob
          clear hK K
          simp only [Act.put,List.setIfInBounds_toArray,List.set_cons_zero,List.set_cons_succ]
          refine wpAnyH_ready (rs:=[20]) (by kernel_rfl) (by simp) ?_
          refine AllReadyH.cons (o:=⟨none,_,_,_,_,_⟩) rfl ?_ AllReadyH.nil
          intro K hK
          rw [if_pos (by rfl)]
          refine op_store6_any _ _ rfl bo rfl rfl (L4.ks.1.1) (st_store1w L4 hbo nbo (.bool o.lo.neg) (.slice A7 n7 c7) (.int .i64 o.lo.e) (.bool o.hi.neg) (.slice B7 m7 d7) (.int .i64 o.hi.e)) ?_
          intro v5 L5
          replace L5:=L5.out
          refine hK.out _ _ (⟨L5.ks.2.1.1,L5.ks.2.2.1.1⟩) ?_
          intro hS5
          clear L4 hS4
          clear hK K
          simp only [Act.put,List.setIfInBounds_toArray,List.set_cons_zero,List.set_cons_succ]
          refine wpAnyH_done (by kernel_rfl) ?_ _
          have LE:=st_n2 (st_k1 L5)
          clear L5 hS5
          go_wp2_with fail
          go_meet
          exact ⟨o,bo,A7,n7,c7,B7,m7,d7,rfl,hbo,ho,LE⟩
        case rest =>
         obtain ⟨o,a15,A7,n7,c7,B7,m7,d7,rfl,h15,ho,V⟩:=hcut
         clear cM1 cM2 cON S
         have ya:=HCO.out _ V.O
         have yb:=HCB.out _ V.O
         have y0:=ya.at_ 0 _ rfl
         have y1:=ya.at_ 1 _ rfl
         have y2:=ya.at_ 2 _ rfl
         have y3:=yb.at_ 0 _ rfl
         have y4:=yb.at_ 1 _ rfl
         have y5:=yb.at_ 2 _ rfl
         have CS:=Lib.hid (cSum.out _ (TB.out _ _ _ V) (FB.out _ _ _ V))
         go_wp2_with fail
         refine CS.out.mono ?_
         rintro e' w8 ⟨A8,n8,c8,rfl,N8,b8⟩
         have V8:=((V.below (alloc_bel _ _)).below b8).num N8
         clear CS cSum ya yb y0 y1 y2 y3 y4 y5 N8 b8 V
         have S9:=V8.alloc 24 #[.bool ab.neg,.slice A8 n8 c8,.int .i64 ab.e]
         obtain ⟨a16,h16⟩:∃ b,b=w8.heap.size:=⟨_,rfl⟩
         have hb16:w7.heap.size≤a16:=by rw [h16];exact V8.size
         have y5:=abk.out
         go_upto_region 18 with fail
         rw [← h16] at S9 ⊢
         clear V8 h16
         generalize w8.alloc (.cells #[.bool ab.neg,.slice A8 n8 c8,.int .i64 ab.e] 24)=w9 at *
         have y0:=S9.wc.2
         have y6:=S9.lt
         go_wp2_with fail
         clear y0 y5 y6
         replace S9:=S9.drew
         as_aux_lemma =>
          have XS:KC 31 w9.drew a15 #[.bool o.lo.neg,.slice A7 n7 c7,.int .i64 o.lo.e,.bool o.hi.neg,.slice B7 m7 d7,.int .i64 o.hi.e]∧KC 24 w9.drew a16 #[.bool ab.neg,.slice A8 n8 c8,.int .i64 ab.e]∧KC 24 w9.drew w.heap.size #[.bool na,.slice A n c,.int .i64 ea]∧KC 24 w9.drew (w.heap.size+1) #[.bool nb1,.slice B m d,.int .i64 eb]∧w9.drew.cell? ⟨g,1,none⟩=some (.bool false):=⟨S9.ks.2.1.1,S9.ks.1.1,HCO.out _ S9.O,HCB.out _ S9.O,S9.wc.2⟩
          refine hw_start (S:=fun w'=>KC 31 w' a15 #[.bool o.lo.neg,.slice A7 n7 c7,.int .i64 o.lo.e,.bool o.hi.neg,.slice B7 m7 d7,.int .i64 o.hi.e]∧KC 24 w' a16 #[.bool ab.neg,.slice A8 n8 c8,.int .i64 ab.e]∧KC 24 w' w.heap.size #[.bool na,.slice A n c,.int .i64 ea]∧KC 24 w' (w.heap.size+1) #[.bool nb1,.slice B m d,.int .i64 eb]∧w'.cell? ⟨g,1,none⟩=some (.bool false)) 49 #[false,false,false,false,false,false,false,false,false,false,false,false,false,false,false,false,false,false,false,false,false,false,false,false,false,false,false,false,false,false,false,false,false,false,false,false,false,false,false,false,false,false,false,false,false,false,false,false,false] (by kernel_rfl) (by kernel_rfl) (by kernel_rfl) XS ?_
          refine wpAnyH_take (i:=0) (oi:=⟨some 116,_,_,_,_,_⟩) (v:=.agg #[.bool o.lo.neg,.slice A7 n7 c7,.int .i64 o.lo.e,.bool o.hi.neg,.slice B7 m7 d7,.int .i64 o.hi.e]) rfl (by kernel_rfl) (by kernel_rfl) (by kernel_rfl) (fun _ _ _ h=>h) (yields_span (by rfl) _ rfl (a15) rfl (fun _ h=>h.1)) XS ?_
          simp only [Act.put,List.setIfInBounds_toArray,List.set_cons_zero,List.set_cons_succ]
          refine wpAnyH_take (i:=1) (oi:=⟨some 117,_,_,_,_,_⟩) (v:=.pointer (some ⟨g,0,none⟩)) rfl (by kernel_rfl) (by kernel_rfl) (by kernel_rfl) (fun _ _ _ h=>h) (yields_pure (by rfl) (fun w=>by kernel_rfl)) XS ?_
          simp only [Act.put,List.setIfInBounds_toArray,List.set_cons_zero,List.set_cons_succ]
          refine wpAnyH_take (i:=2) (oi:=⟨some 118,_,_,_,_,_⟩) (v:=.pointer (some ⟨g,0,none⟩)) rfl (by kernel_rfl) (by kernel_rfl) (by kernel_rfl) (fun _ _ _ h=>h) (yields_pure (by rfl) (fun w=>by kernel_rfl)) XS ?_
          simp only [Act.put,List.setIfInBounds_toArray,List.set_cons_zero,List.set_cons_succ]
          refine wpAnyH_take (i:=3) (oi:=⟨some 119,_,_,_,_,_⟩) (v:=.pointer (some ⟨g,0,none⟩)) rfl (by kernel_rfl) (by kernel_rfl) (by kernel_rfl) (fun _ _ _ h=>h) (yields_pure (by rfl) (fun w=>by kernel_rfl)) XS ?_
          simp only [Act.put,List.setIfInBounds_toArray,List.set_cons_zero,List.set_cons_succ]
          refine wpAnyH_take (i:=4) (oi:=⟨some 120,_,_,_,_,_⟩) (v:=.pointer (some ⟨g,0,none⟩)) rfl (by kernel_rfl) (by kernel_rfl) (by kernel_rfl) (fun _ _ _ h=>h) (yields_pure (by rfl) (fun w=>by kernel_rfl)) XS ?_
          simp only [Act.put,List.setIfInBounds_toArray,List.set_cons_zero,List.set_cons_succ]
          refine wpAnyH_ready (rs:=[5]) (by kernel_rfl) (by simp) ?_
          refine AllReadyH.cons (o:=⟨some 121,_,_,_,_,_⟩) rfl ?_ AllReadyH.nil
          intro K hK
          rw [if_pos (by rfl)]
          refine op_call (cOne.out _ _ S9.W (TB.out _ _ _ S9)) (by kernel_rfl) ?_
          rintro e' v1 ⟨q,hq,qb,A10,n10,c10,B10,m10,d10,rfl,N0,M0,W0,o0⟩
          rw [qb] at W0
          have L1:=((S9.only o0 W0).num M0).num N0
          refine ⟨_,rfl,hK.out _ _ (⟨L1.ks.2.1.1,L1.ks.1.1,HCO.out _ L1.O,HCB.out _ L1.O,L1.wc.2⟩) (fun hS1=>?_)⟩
          clear N0 M0 W0 o0  XS qb
          clear hK K
          simp only [Act.put,List.setIfInBounds_toArray,List.set_cons_zero,List.set_cons_succ]
          refine wpAnyH_ready (rs:=[6]) (by kernel_rfl) (by simp) ?_
          refine AllReadyH.cons (o:=⟨some 122,_,_,_,_,_⟩) rfl ?_ AllReadyH.nil
          intro K hK
          rw [if_pos (by rfl)]
          refine op_call (cME.out _ _ _ _ _ _ _ _ _ _ _ _ _ _ _ ho hq  L1.ns.2.2.2.1 L1.ns.2.2.2.2.1 L1.ns.1 L1.ns.2.1) (by kernel_rfl) ?_
          rintro e' v2 ⟨rfl,b0⟩
          have L2:=L1.below b0
          refine ⟨_,rfl,hK.out _ _ (⟨L2.ks.2.1.1,L2.ks.1.1,HCO.out _ L2.O,HCB.out _ L2.O,L2.wc.2⟩) (fun hS2=>?_)⟩
          clear b0 L1 hS1
          clear hK K
          simp only [Act.put,List.setIfInBounds_toArray,List.set_cons_zero,List.set_cons_succ]
          refine wpAnyH_take (i:=7) (oi:=⟨some 123,_,_,_,_,_⟩) (v:=.bool true) rfl (by kernel_rfl) (by kernel_rfl) (by kernel_rfl) (fun _ _ _ h=>h) (yields_pure (by rfl) (fun w=>by kernel_rfl)) hS2 ?_
          simp only [Act.put,List.setIfInBounds_toArray,List.set_cons_zero,List.set_cons_succ]
          refine wpAnyH_take (i:=8) (oi:=⟨some 124,_,_,_,_,_⟩) (v:=.pointer (some ⟨g,0,none⟩)) rfl (by kernel_rfl) (by kernel_rfl) (by kernel_rfl) (fun _ _ _ h=>h) (yields_pure (by rfl) (fun w=>by kernel_rfl)) hS2 ?_
          simp only [Act.put,List.setIfInBounds_toArray,List.set_cons_zero,List.set_cons_succ]
          refine wpAnyH_take (i:=9) (oi:=⟨some 125,_,_,_,_,_⟩) (v:=.pointer (some ⟨g,0,none⟩)) rfl (by kernel_rfl) (by kernel_rfl) (by kernel_rfl) (fun _ _ _ h=>h) (yields_pure (by rfl) (fun w=>by kernel_rfl)) hS2 ?_
          simp only [Act.put,List.setIfInBounds_toArray,List.set_cons_zero,List.set_cons_succ]
          refine wpAnyH_take (i:=10) (oi:=⟨some 126,_,_,_,_,_⟩) (v:=.pointer (some ⟨g,0,none⟩)) rfl (by kernel_rfl) (by kernel_rfl) (by kernel_rfl) (fun _ _ _ h=>h) (yields_pure (by rfl) (fun w=>by kernel_rfl)) hS2 ?_
          simp only [Act.put,List.setIfInBounds_toArray,List.set_cons_zero,List.set_cons_succ]
          refine wpAnyH_take (i:=11) (oi:=⟨some 127,_,_,_,_,_⟩) (v:=.pointer (some ⟨g,0,none⟩)) rfl (by kernel_rfl) (by kernel_rfl) (by kernel_rfl) (fun _ _ _ h=>h) (yields_pure (by rfl) (fun w=>by kernel_rfl)) hS2 ?_
          simp only [Act.put,List.setIfInBounds_toArray,List.set_cons_zero,List.set_cons_succ]
          refine wpAnyH_take (i:=12) (oi:=⟨some 128,_,_,_,_,_⟩) (v:=.pointer (some ⟨g,0,none⟩)) rfl (by kernel_rfl) (by kernel_rfl) (by kernel_rfl) (fun _ _ _ h=>h) (yields_pure (by rfl) (fun w=>by kernel_rfl)) hS2 ?_
          simp only [Act.put,List.setIfInBounds_toArray,List.set_cons_zero,List.set_cons_succ]
          refine wpAnyH_take (i:=13) (oi:=⟨some 129,_,_,_,_,_⟩) (v:=.agg #[.bool ab.neg,.slice A8 n8 c8,.int .i64 ab.e]) rfl (by kernel_rfl) (by kernel_rfl) (by kernel_rfl) (fun _ _ _ h=>h) (yields_dyad (by rfl) _ rfl (a16) rfl (fun _ h=>h.2.1)) hS2 ?_
          simp only [Act.put,List.setIfInBounds_toArray,List.set_cons_zero,List.set_cons_succ]
          refine wpAnyH_take (i:=16) (oi:=⟨some 132,_,_,_,_,_⟩) (v:=.pointer (some ⟨g,0,none⟩)) rfl (by kernel_rfl) (by kernel_rfl) (by kernel_rfl) (fun _ _ _ h=>h) (yields_pure (by rfl) (fun w=>by kernel_rfl)) hS2 ?_
          simp only [Act.put,List.setIfInBounds_toArray,List.set_cons_zero,List.set_cons_succ]
          refine wpAnyH_take (i:=17) (oi:=⟨some 133,_,_,_,_,_⟩) (v:=.pointer (some ⟨g,0,none⟩)) rfl (by kernel_rfl) (by kernel_rfl) (by kernel_rfl) (fun _ _ _ h=>h) (yields_pure (by rfl) (fun w=>by kernel_rfl)) hS2 ?_
          simp only [Act.put,List.setIfInBounds_toArray,List.set_cons_zero,List.set_cons_succ]
          refine wpAnyH_take (i:=18) (oi:=⟨some 134,_,_,_,_,_⟩) (v:=.pointer (some ⟨g,0,none⟩)) rfl (by kernel_rfl) (by kernel_rfl) (by kernel_rfl) (fun _ _ _ h=>h) (yields_pure (by rfl) (fun w=>by kernel_rfl)) hS2 ?_
          simp only [Act.put,List.setIfInBounds_toArray,List.set_cons_zero,List.set_cons_succ]
          refine wpAnyH_take (i:=19) (oi:=⟨some 135,_,_,_,_,_⟩) (v:=.pointer (some ⟨g,0,none⟩)) rfl (by kernel_rfl) (by kernel_rfl) (by kernel_rfl) (fun _ _ _ h=>h) (yields_pure (by rfl) (fun w=>by kernel_rfl)) hS2 ?_
          simp only [Act.put,List.setIfInBounds_toArray,List.set_cons_zero,List.set_cons_succ]
          refine wpAnyH_take (i:=20) (oi:=⟨some 136,_,_,_,_,_⟩) (v:=.pointer (some ⟨g,0,none⟩)) rfl (by kernel_rfl) (by kernel_rfl) (by kernel_rfl) (fun _ _ _ h=>h) (yields_pure (by rfl) (fun w=>by kernel_rfl)) hS2 ?_
          simp only [Act.put,List.setIfInBounds_toArray,List.set_cons_zero,List.set_cons_succ]
          refine wpAnyH_take (i:=21) (oi:=⟨some 137,_,_,_,_,_⟩) (v:=.pointer (some ⟨g,0,none⟩)) rfl (by kernel_rfl) (by kernel_rfl) (by kernel_rfl) (fun _ _ _ h=>h) (yields_pure (by rfl) (fun w=>by kernel_rfl)) hS2 ?_
          simp only [Act.put,List.setIfInBounds_toArray,List.set_cons_zero,List.set_cons_succ]
          refine wpAnyH_take (i:=22) (oi:=⟨some 138,_,_,_,_,_⟩) (v:=.pointer (some ⟨g,0,none⟩)) rfl (by kernel_rfl) (by kernel_rfl) (by kernel_rfl) (fun _ _ _ h=>h) (yields_pure (by rfl) (fun w=>by kernel_rfl)) hS2 ?_
          simp only [Act.put,List.setIfInBounds_toArray,List.set_cons_zero,List.set_cons_succ]
          refine wpAnyH_take (i:=23) (oi:=⟨some 139,_,_,_,_,_⟩) (v:=.pointer (some ⟨g,0,none⟩)) rfl (by kernel_rfl) (by kernel_rfl) (by kernel_rfl) (fun _ _ _ h=>h) (yields_pure (by rfl) (fun w=>by kernel_rfl)) hS2 ?_
          simp only [Act.put,List.setIfInBounds_toArray,List.set_cons_zero,List.set_cons_succ]
          refine wpAnyH_take (i:=24) (oi:=⟨some 140,_,_,_,_,_⟩) (v:=.pointer (some ⟨g,0,none⟩)) rfl (by kernel_rfl) (by kernel_rfl) (by kernel_rfl) (fun _ _ _ h=>h) (yields_pure (by rfl) (fun w=>by kernel_rfl)) hS2 ?_
          simp only [Act.put,List.setIfInBounds_toArray,List.set_cons_zero,List.set_cons_succ]
          refine wpAnyH_take (i:=25) (oi:=⟨some 141,_,_,_,_,_⟩) (v:=.agg #[.bool na,.slice A n c,.int .i64 ea]) rfl (by kernel_rfl) (by kernel_rfl) (by kernel_rfl) (fun _ _ _ h=>h) (yields_dyad (by rfl) _ rfl (w.heap.size) rfl (fun _ h=>h.2.2.1)) hS2 ?_
          simp only [Act.put,List.setIfInBounds_toArray,List.set_cons_zero,List.set_cons_succ]
          refine wpAnyH_take (i:=28) (oi:=⟨some 144,_,_,_,_,_⟩) (v:=.pointer (some ⟨g,0,none⟩)) rfl (by kernel_rfl) (by kernel_rfl) (by kernel_rfl) (fun _ _ _ h=>h) (yields_pure (by rfl) (fun w=>by kernel_rfl)) hS2 ?_
          simp only [Act.put,List.setIfInBounds_toArray,List.set_cons_zero,List.set_cons_succ]
          refine wpAnyH_take (i:=29) (oi:=⟨some 145,_,_,_,_,_⟩) (v:=.pointer (some ⟨g,0,none⟩)) rfl (by kernel_rfl) (by kernel_rfl) (by kernel_rfl) (fun _ _ _ h=>h) (yields_pure (by rfl) (fun w=>by kernel_rfl)) hS2 ?_
          simp only [Act.put,List.setIfInBounds_toArray,List.set_cons_zero,List.set_cons_succ]
          refine wpAnyH_take (i:=30) (oi:=⟨some 146,_,_,_,_,_⟩) (v:=.pointer (some ⟨g,0,none⟩)) rfl (by kernel_rfl) (by kernel_rfl) (by kernel_rfl) (fun _ _ _ h=>h) (yields_pure (by rfl) (fun w=>by kernel_rfl)) hS2 ?_
          simp only [Act.put,List.setIfInBounds_toArray,List.set_cons_zero,List.set_cons_succ]
          refine wpAnyH_take (i:=31) (oi:=⟨some 147,_,_,_,_,_⟩) (v:=.pointer (some ⟨g,0,none⟩)) rfl (by kernel_rfl) (by kernel_rfl) (by kernel_rfl) (fun _ _ _ h=>h) (yields_pure (by rfl) (fun w=>by kernel_rfl)) hS2 ?_
          simp only [Act.put,List.setIfInBounds_toArray,List.set_cons_zero,List.set_cons_succ]
          refine wpAnyH_take (i:=32) (oi:=⟨some 148,_,_,_,_,_⟩) (v:=.pointer (some ⟨g,0,none⟩)) rfl (by kernel_rfl) (by kernel_rfl) (by kernel_rfl) (fun _ _ _ h=>h) (yields_pure (by rfl) (fun w=>by kernel_rfl)) hS2 ?_
          simp only [Act.put,List.setIfInBounds_toArray,List.set_cons_zero,List.set_cons_succ]
          refine wpAnyH_take (i:=33) (oi:=⟨some 149,_,_,_,_,_⟩) (v:=.agg #[.bool nb1,.slice B m d,.int .i64 eb]) rfl (by kernel_rfl) (by kernel_rfl) (by kernel_rfl) (fun _ _ _ h=>h) (yields_dyad (by rfl) _ rfl (w.heap.size+1) rfl (fun _ h=>h.2.2.2.1)) hS2 ?_
          simp only [Act.put,List.setIfInBounds_toArray,List.set_cons_zero,List.set_cons_succ]
          refine wpAnyH_ready (rs:=[14]) (by kernel_rfl) (by simp) ?_
          refine AllReadyH.cons (o:=⟨some 130,_,_,_,_,_⟩) rfl ?_ AllReadyH.nil
          intro K hK
          rw [if_pos (by rfl)]
          refine op_call (cPt.out _ _ _ _ _ L2.W L2.ns.2.2.1) (by kernel_rfl) ?_
          rintro e' v3 ⟨A11,n11,c11,B11,m11,d11,rfl,N0,M0,W0,o0⟩
          replace N0:Num _ _ ab.m:=N0
          replace M0:Num _ _ ab.m:=M0
          replace W0:Wk 38 _ g p false:=W0
          have L3:=((L2.only o0 W0).num M0).num N0
          refine ⟨_,rfl,hK.out _ _ (⟨L3.ks.2.1.1,L3.ks.1.1,HCO.out _ L3.O,HCB.out _ L3.O,L3.wc.2⟩) (fun hS3=>?_)⟩
          clear N0 M0 W0 o0 L2 hS2
          clear hK K
          simp only [Act.put,List.setIfInBounds_toArray,List.set_cons_zero,List.set_cons_succ]
          refine wpAnyH_ready (rs:=[15]) (by kernel_rfl) (by simp) ?_
          refine AllReadyH.cons (o:=⟨some 131,_,_,_,_,_⟩) rfl ?_ AllReadyH.nil
          intro K hK
          rw [if_pos (by rfl)]
          refine op_call (cES.out _ _ _ _ _ _ _ _ L3.W (TB.out _ _ _ L3) L3.ns.1 L3.ns.2.1) (by kernel_rfl) ?_
          rintro e' v4 ⟨es,hes,esb,A12,n12,c12,B12,m12,d12,rfl,N0,M0,W0,o0⟩
          rw [esb] at W0
          have L4:=((L3.only o0 W0).num M0).num N0
          refine ⟨_,rfl,hK.out _ _ (⟨L4.ks.2.1.1,L4.ks.1.1,HCO.out _ L4.O,HCB.out _ L4.O,L4.wc.2⟩) (fun hS4=>?_)⟩
          clear N0 M0 W0 o0 L3 hS3 esb
          clear hK K
          simp only [Act.put,List.setIfInBounds_toArray,List.set_cons_zero,List.set_cons_succ]
          refine wpAnyH_ready (rs:=[26]) (by kernel_rfl) (by simp) ?_
          refine AllReadyH.cons (o:=⟨some 142,_,_,_,_,_⟩) rfl ?_ AllReadyH.nil
          intro K hK
          rw [if_pos (by rfl)]
          refine op_call (cPA.out _ _ L4.W (FB.out _ _ _ L4)) (by kernel_rfl) ?_
          rintro e' v5 ⟨A13,n13,c13,B13,m13,d13,rfl,N0,M0,W0,o0⟩
          replace N0:Num _ _ a.m:=N0
          replace M0:Num _ _ a.m:=M0
          replace W0:Wk 38 _ g p false:=W0
          have L5:=((L4.only o0 W0).num M0).num N0
          refine ⟨_,rfl,hK.out _ _ (⟨L5.ks.2.1.1,L5.ks.1.1,HCO.out _ L5.O,HCB.out _ L5.O,L5.wc.2⟩) (fun hS5=>?_)⟩
          clear N0 M0 W0 o0 L4 hS4
          clear hK K
          simp only [Act.put,List.setIfInBounds_toArray,List.set_cons_zero,List.set_cons_succ]
          refine wpAnyH_ready (rs:=[27]) (by kernel_rfl) (by simp) ?_
          refine AllReadyH.cons (o:=⟨some 143,_,_,_,_,_⟩) rfl ?_ AllReadyH.nil
          intro K hK
          rw [if_pos (by rfl)]
          refine op_call (cEA.out _ _ _ _ _ _ _ _ L5.W (TB.out _ _ _ L5) L5.ns.1 L5.ns.2.1) (by kernel_rfl) ?_
          rintro e' v6 ⟨xa,hxa,xab,A14,n14,c14,B14,m14,d14,rfl,N0,M0,W0,o0⟩
          rw [xab] at W0
          have L6:=((L5.only o0 W0).num M0).num N0
          refine ⟨_,rfl,hK.out _ _ (⟨L6.ks.2.1.1,L6.ks.1.1,HCO.out _ L6.O,HCB.out _ L6.O,L6.wc.2⟩) (fun hS6=>?_)⟩
          clear N0 M0 W0 o0 L5 hS5 xab
          clear hK K
          simp only [Act.put,List.setIfInBounds_toArray,List.set_cons_zero,List.set_cons_succ]
          refine wpAnyH_ready (rs:=[34]) (by kernel_rfl) (by simp) ?_
          refine AllReadyH.cons (o:=⟨some 150,_,_,_,_,_⟩) rfl ?_ AllReadyH.nil
          intro K hK
          rw [if_pos (by rfl)]
          refine op_call (cPB.out _ _ L6.W (FB.out _ _ _ L6)) (by kernel_rfl) ?_
          rintro e' v7 ⟨A15,n15,c15,B15,m15,d15,rfl,N0,M0,W0,o0⟩
          replace N0:Num _ _ b.m:=N0
          replace M0:Num _ _ b.m:=M0
          replace W0:Wk 38 _ g p false:=W0
          have L7:=((L6.only o0 W0).num M0).num N0
          refine ⟨_,rfl,hK.out _ _ (⟨L7.ks.2.1.1,L7.ks.1.1,HCO.out _ L7.O,HCB.out _ L7.O,L7.wc.2⟩) (fun hS7=>?_)⟩
          clear N0 M0 W0 o0 L6 hS6
          clear hK K
          simp only [Act.put,List.setIfInBounds_toArray,List.set_cons_zero,List.set_cons_succ]
          refine wpAnyH_ready (rs:=[35]) (by kernel_rfl) (by simp) ?_
          refine AllReadyH.cons (o:=⟨some 151,_,_,_,_,_⟩) rfl ?_ AllReadyH.nil
          intro K hK
          rw [if_pos (by rfl)]
          refine op_call (cEB.out _ _ _ _ _ _ _ _ L7.W (TB.out _ _ _ L7) L7.ns.1 L7.ns.2.1) (by kernel_rfl) ?_
          rintro e' v8 ⟨xb,hxb,xbb,A16,n16,c16,B16,m16,d16,rfl,N0,M0,W0,o0⟩
          rw [xbb] at W0
          have L8:=((L7.only o0 W0).num M0).num N0
          refine ⟨_,rfl,hK.out _ _ (⟨L8.ks.2.1.1,L8.ks.1.1,HCO.out _ L8.O,HCB.out _ L8.O,L8.wc.2⟩) (fun hS8=>?_)⟩
          clear N0 M0 W0 o0 L7 hS7 xbb
          clear hK K
          simp only [Act.put,List.setIfInBounds_toArray,List.set_cons_zero,List.set_cons_succ]
          refine wpAnyH_ready (rs:=[36]) (by kernel_rfl) (by simp) ?_
          refine AllReadyH.cons (o:=⟨some 152,_,_,_,_,_⟩) rfl ?_ AllReadyH.nil
          intro K hK
          rw [if_pos (by rfl)]
          refine op_call (cMU.out _ _ _ _ _ _ _ _ _ _ _ _ _ _ _ _ hxa hxb L8.W (TB.out _ _ _ L8) L8.ns.2.2.2.2.1 L8.ns.2.2.2.2.2.1 L8.ns.1 L8.ns.2.1) (by kernel_rfl) ?_
          rintro e' v9 ⟨mu,hmu,mub,A17,n17,c17,B17,m17,d17,rfl,N0,M0,W0,o0⟩
          rw [mub] at W0
          have L9:=((L8.only o0 W0).num M0).num N0
          refine ⟨_,rfl,hK.out _ _ (⟨L9.ks.2.1.1,L9.ks.1.1,HCO.out _ L9.O,HCB.out _ L9.O,L9.wc.2⟩) (fun hS9=>?_)⟩
          clear N0 M0 W0 o0 L8 hS8 mub
          clear hK K
          simp only [Act.put,List.setIfInBounds_toArray,List.set_cons_zero,List.set_cons_succ]
          refine wpAnyH_ready (rs:=[37]) (by kernel_rfl) (by simp) ?_
          refine AllReadyH.cons (o:=⟨some 153,_,_,_,_,_⟩) rfl ?_ AllReadyH.nil
          intro K hK
          rw [if_pos (by rfl)]
          refine op_call (cMS.out _ _ _ _ _ _ _ _ _ _ _ _ _ _ _ hes hmu  L9.ns.2.2.2.2.2.2.2.2.2.2.1 L9.ns.2.2.2.2.2.2.2.2.2.2.2.1 L9.ns.1 L9.ns.2.1) (by kernel_rfl) ?_
          rintro e' v10 ⟨rfl,b0⟩
          have L10:=L9.below b0
          refine ⟨_,rfl,hK.out _ _ (⟨L10.ks.2.1.1,L10.ks.1.1,HCO.out _ L10.O,HCB.out _ L10.O,L10.wc.2⟩) (fun hS10=>?_)⟩
          clear b0 L9 hS9
          clear hK K
          simp only [Act.put,List.setIfInBounds_toArray,List.set_cons_zero,List.set_cons_succ]
          refine wpAnyH_take (i:=38) (oi:=⟨some 154,_,_,_,_,_⟩) (v:=.bool true) rfl (by kernel_rfl) (by kernel_rfl) (by kernel_rfl) (fun _ _ _ h=>h) (yields_pure (by rfl) (fun w=>by kernel_rfl)) hS10 ?_
          simp only [Act.put,List.setIfInBounds_toArray,List.set_cons_zero,List.set_cons_succ]
          refine wpAnyH_take (i:=39) (oi:=⟨some 155,_,_,_,_,_⟩) (v:=.bool true) rfl (by kernel_rfl) (by kernel_rfl) (by kernel_rfl) (fun _ _ _ h=>h) (yields_pure (by rfl) (fun w=>by kernel_rfl)) hS10 ?_
          simp only [Act.put,List.setIfInBounds_toArray,List.set_cons_zero,List.set_cons_succ]
          refine wpAnyH_take (i:=40) (oi:=⟨some 156,_,_,_,_,_⟩) (v:=.pointer (some ⟨g,0,none⟩)) rfl (by kernel_rfl) (by kernel_rfl) (by kernel_rfl) (fun _ _ _ h=>h) (yields_pure (by rfl) (fun w=>by kernel_rfl)) hS10 ?_
          simp only [Act.put,List.setIfInBounds_toArray,List.set_cons_zero,List.set_cons_succ]
          refine wpAnyH_take (i:=41) (oi:=⟨some 157,_,_,_,_,_⟩) (v:=.pointer (some ⟨g,0,none⟩)) rfl (by kernel_rfl) (by kernel_rfl) (by kernel_rfl) (fun _ _ _ h=>h) (yields_pure (by rfl) (fun w=>by kernel_rfl)) hS10 ?_
          simp only [Act.put,List.setIfInBounds_toArray,List.set_cons_zero,List.set_cons_succ]
          refine wpAnyH_take (i:=42) (oi:=⟨some 158,_,_,_,_,_⟩) (v:=.pointer (some ⟨g,0,none⟩)) rfl (by kernel_rfl) (by kernel_rfl) (by kernel_rfl) (fun _ _ _ h=>h) (yields_pure (by rfl) (fun w=>by kernel_rfl)) hS10 ?_
          simp only [Act.put,List.setIfInBounds_toArray,List.set_cons_zero,List.set_cons_succ]
          refine wpAnyH_take (i:=43) (oi:=⟨some 159,_,_,_,_,_⟩) (v:=.pointer (some ⟨g,0,none⟩)) rfl (by kernel_rfl) (by kernel_rfl) (by kernel_rfl) (fun _ _ _ h=>h) (yields_pure (by rfl) (fun w=>by kernel_rfl)) hS10 ?_
          simp only [Act.put,List.setIfInBounds_toArray,List.set_cons_zero,List.set_cons_succ]
          refine wpAnyH_take (i:=44) (oi:=⟨some 160,_,_,_,_,_⟩) (v:=.pointer (some ⟨g,1,none⟩)) rfl (by kernel_rfl) (by kernel_rfl) (by kernel_rfl) (fun _ _ _ h=>h) (yields_pure (by rfl) (fun w=>by kernel_rfl)) hS10 ?_
          simp only [Act.put,List.setIfInBounds_toArray,List.set_cons_zero,List.set_cons_succ]
          refine wpAnyH_take (i:=45) (oi:=⟨some 161,_,_,_,_,_⟩) (v:=.bool false) rfl (by kernel_rfl) (by kernel_rfl) (by kernel_rfl) (fun _ _ _ h=>h) (yields_bool (by rfl) _ rfl rfl (fun _ h=>h.2.2.2.2)) hS10 ?_
          simp only [Act.put,List.setIfInBounds_toArray,List.set_cons_zero,List.set_cons_succ]
          refine wpAnyH_take (i:=46) (oi:=⟨some 162,_,_,_,_,_⟩) (v:=.bool true) rfl (by kernel_rfl) (by kernel_rfl) (by kernel_rfl) (fun _ _ _ h=>h) (yields_pure (by rfl) (fun w=>by kernel_rfl)) hS10 ?_
          simp only [Act.put,List.setIfInBounds_toArray,List.set_cons_zero,List.set_cons_succ]
          refine wpAnyH_take (i:=47) (oi:=⟨some 163,_,_,_,_,_⟩) (v:=.bool true) rfl (by kernel_rfl) (by kernel_rfl) (by kernel_rfl) (fun _ _ _ h=>h) (yields_pure (by rfl) (fun w=>by kernel_rfl)) hS10 ?_
          simp only [Act.put,List.setIfInBounds_toArray,List.set_cons_zero,List.set_cons_succ]
          refine wpAnyH_take (i:=48) (oi:=⟨some 6,_,_,_,_,_⟩) (v:=.bool true) rfl (by kernel_rfl) (by kernel_rfl) (by kernel_rfl) (fun _ _ _ h=>h) (yields_pure (by rfl) (fun w=>by kernel_rfl)) hS10 ?_
          simp only [Act.put,List.setIfInBounds_toArray,List.set_cons_zero,List.set_cons_succ]
          refine wpAnyH_done (by kernel_rfl) ?_ _
          clear hS10
          go_wp2_with fail
          go_ret
          exact ⟨rfl,FB.out _ _ _ L10⟩
end Go.Proofs.YtmbmohibpkepdaaGreatDoor
