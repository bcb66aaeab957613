import Derived.Test.YtmbmohibpkepdaaGreatDoorPlSGDy7
import Derived.Test.YtmbmohibpkepdaaGreatDoorPlSGDy9
set_option maxHeartbeats 4000000
open Go.Lib renaming hid->lY
open Go.Proofs.Tryz renaming results107->mF, results101->ou, prog->oM, results160->oY
namespace Go.Proofs.YtmbmohibpkepdaaGreatDoor
open Go.RowKit
theorem lO {v:Value}{V:Nat}(neg:Bool)(e:Int)(w:World)(h:am w v V)(hV:nb V<=1000000)(hT:bx w)(he1:-9223372036854775808<=e)(he2:e<=9223372036854775807):
 Calls oM 98 #[.bool neg,v,.int .i64 e] w (fI w (bH neg V e)):=by
 obtain⟨A,n,c,f,rfl,hs,hn,_,rfl⟩:=h.raw 15625 (by omega);exact jC neg A n c f e w hs (by omega) hT he1 he2
theorem tX (neg up:Bool)(w:World):Calls oM 162 #[.bool neg,.bool up] w fun e w'=>e=.returned (.bool (neg != up))/\w=w':=by
 cases neg <;> cases up
 all_goals
  go_enter Tryz.func162,Tryz.ntmps162;go_wp2_with fail;go_ret;exact⟨rfl,rfl⟩
theorem sT {w:World}{A:OA}{c r:Nat}(h:Sl w A 1 c (fun _=>r))(h0:r≠0):am w (.slice A 1 c) r:=⟨A,1,c,_,rfl,h,.inr h0,f5 _ _⟩
theorem zz:nb 1=1:=jU (B:=0) (by decide) (by decide)
theorem pO (V z:Nat):nb (V/2^z)<=nb V:=by rw[gH];omega
theorem iO (V:Nat):nb (V+1)<=nb V+1:=by
 have:=dZ V
 refine(bi _ _).2 ?_
 rw[Nat.pow_succ];omega
theorem mw (neg:Bool)(A:OA)(n c V:Nat)(e:Int)(rest:Bool)(p:Nat)(up:Bool)(w:World)(ha:am w (.slice A n c) V)(hV:nb V<=900000)(hp:p<=8192)(hT:bx w)(he1:-1000000000<=e)(he2:e<=1000000000):
 Calls oM 160 #[.bool neg,.slice A n c,.int .i64 e,.bool rest,.int .i64 (p:Int),.bool up] w (fI w (cj neg V e rest p up)):=by
 have S:=F1.start w hT;obtain⟨L,hL⟩:∃ L,Hid (L=nb V):=⟨_,lY rfl⟩;obtain⟨D,hD⟩:∃ D,Hid (D=L-p):=⟨_,lY rfl⟩
 have hL9:L<=900000:=by rw[hL.out];exact hV
 have hD9:D<=900000:=by have:=hD.out;omega
 have hmax:max ((L:Int)-(p:Int)) 0=(D:Int):=by have:=hD.out;omega
 have BT:=lY (nH _ (ha.below S.bel) (by omega));rw[← hL.out]at BT;go_enter Tryz.func160,Tryz.ntmps160;go_wp2_with fail;generalize w.alloc (.cells #[.bool false,.slice none 0 0,.int .i64 0] 24)=w1 at *;refine BT.out.mono ?_;rintro e' w2 ⟨rfl,b⟩;have F:=S.adv b S.sz;clear S b BT;have SR:=lY (yN (s:=D) w2 (ha.below F.bel) (by omega) (by omega));go_wp2_with fail;refine SR.out.mono ?_;rintro e' w3 ⟨A3,p3,c3,rfl,n3,b⟩;have G:=F.adv b F.sz;clear F b SR;have HQ:Hid (V/2^D<=V):=lY (Nat.div_le_self _ _);have hq9:Hid (nb (V/2^D)<=900000):=lY (by have:=pO V D;omega);obtain⟨K,hK⟩:∃ K,Hid (K=V/2^D):=⟨_,lY rfl⟩
 have HR0:Hid (((rest || decide (K*2^D≠V)) && (neg != up))=false->cj neg V e rest p up=bH neg K (e+(D:Int))):=lY (fun ht=>by
  rw[show(neg != up)=(up != neg) by cases neg <;> cases up <;> rfl]at ht
  unfold cj;rw[← hL.out,← hD.out,← hK.out,ht];rfl)
 have HR1:Hid (((rest || decide (K*2^D≠V)) && (neg != up))=true->cj neg V e rest p up=bH neg (K+1) (e+(D:Int))):=lY (fun ht=>by
  rw[show(neg != up)=(up != neg) by cases neg <;> cases up <;> rfl]at ht
  unfold cj;rw[← hL.out,← hD.out,← hK.out,ht];rfl)
 rw[← hK.out]at n3 HQ hq9;obtain⟨M,hM⟩:∃ M:Bool,Hid (M=decide (K*2^D≠V)):=⟨_,lY rfl⟩;rw[← hM.out]at HR0 HR1;have AW:=lY (tX neg up);have SL:=lY (vW (s:=D) w3 n3 (by have:=hq9.out;omega) (by omega))
 have HC:Hid (cQ (K*2^D) V=0 ↔ M=false):=lY (by
  rw[hM.out];unfold cQ
  rcases Nat.lt_trichotomy (K*2^D) V with h | h | h
  . rw[if_pos h];simp;omega
  . simp[h]
  . rw[if_neg (by omega),if_pos h];simp;omega)
 have hbl:Hid (nb (K*2^D)<=2000000):=lY (by have:=iv K D;have:=hq9.out;omega)
 have ADD:Hid (∀ w',Below w.heap.size w w'->am w' (.slice A3 p3 c3) K->Calls oM 163 #[.slice A3 p3 c3,.slice (some ⟨w'.heap.size,0,none⟩) 1 1] (w'.alloc (.cells #[.int .u64 ((1:Nat):Int)] 51)) fun e w''=>∃ A4 p4 c4,e=.returned (.slice A4 p4 c4)/\am w'' (.slice A4 p4 c4) (K+1)/\Below w'.heap.size w' w''):=lY (fun w' hw hk=>by
  have bA3:Below w'.heap.size w' (w'.alloc (.cells #[.int .u64 ((1:Nat):Int)] 51)):=(Below.refl _ w').alloc (Nat.le_refl _) _;have o3:=gf 51 w' 1 (by unfold ai;omega);refine(yZ _ (hk.below bA3) (sT o3 (by omega)) (by have:=hq9.out;omega) (by rw[zz];omega)).mono ?_;rintro e' w'' ⟨A4,p4,c4,rfl,n4,b⟩
  exact⟨A4,p4,c4,rfl,n4,bA3.trans (b.mono bA3.size)⟩)
 have MK:Hid (∀ (A5:OA) (p5 c5 K5:Nat) w',F1 w w'->am w' (.slice A5 p5 c5) K5->nb K5<=900001->Calls oM 98 #[.bool neg,.slice A5 p5 c5,.int .i64 (e+(D:Int))] w' (fI w' (bH neg K5 (e+(D:Int))))):=lY (fun A5 p5 c5 K5 w' hF hn hb =>
  lO neg (e+(D:Int)) w' hn (by omega) hF.tab (by omega) (by omega))
 cases rest
 . go_wp2_with fail
   refine SL.out.mono ?_;rintro e' w4 ⟨A5,p5,c5,rfl,n5,b⟩;have G4:=G.adv b G.sz;have n34:=n3.below b;clear b SL;have CM:=lY (uG w4 n5 (ha.below G4.bel) (by have:=hbl.out;omega) (by omega));go_wp2_with fail;refine CM.out.mono ?_;rintro e' w5 ⟨rfl,b⟩;have G5:=G4.adv b G4.sz;have n35:=n34.below b;clear b CM G4 G n3 n34 n5;generalize cQ (K*2^D) V=cc at *;cases M
   . have hcc:(cc != 0)=false:=by rw[HC.out.2 rfl];rfl
     have HX:=lY (HR0.out (by simp));go_wp2_with fail;refine(MK.out A3 p3 c3 K w5 G5 n35 (by have:=hq9.out;omega)).mono ?_;rintro e' w9 ⟨v9,rfl,n9,b9⟩;have F9:=G5.adv b9 G5.sz;have HYES:=lY (HX.out);clear b9 G5 MK ADD;obtain⟨cF0,cF1,cF2⟩:=F9.kr.cell;obtain⟨fF0,fF1,fF2⟩:=F9.kr.frozen;generalize bH neg K (e+(D:Int))=r at *;obtain⟨A9,p9,c9,f9,rfl,m9⟩:=n9;go_wp2_with fail;rw[HYES.out]
     refine bodyPost_ret (v:=.tuple #[.agg #[.bool r.neg,.slice A9 p9 c9,.int .i64 r.e],.bool r.ok]) (by simp[results,oY,go_sem,cF0,cF1,cF2]) rfl
      ⟨_,rfl,am.put3 ⟨A9,p9,c9,f9,rfl,m9⟩ F9.kr (aD _) (av _ _ _) (aI _) _ _ _,ak F9.bel (by omega) F9.bel.size _ _ _⟩
   . have hcc:(cc != 0)=true:=by
      have:cc≠0:=fun h=>by have:=HC.out.1 h;cases this
      simpa using this
     go_wp2_with fail;refine(AW.out w5).mono ?_;rintro e' w6 ⟨rfl,rfl⟩
     by_cases hun:(neg != up)=true
     . rw[hun]
       have HX:=lY (HR1.out (by rw[hun];simp[]));have AD:=lY (ADD.out w5 G5.bel n35);go_wp2_with fail;refine AD.out.mono ?_;rintro e' w7 ⟨A4,p4,c4,rfl,n4,b⟩;have F7:=G5.adv b G5.sz;clear b G5 AD;go_wp2_with fail;refine(MK.out A4 p4 c4 (K+1) w7 F7 n4 (by have:=iO K;have:=hq9.out;omega)).mono ?_;rintro e' w9 ⟨v9,rfl,n9,b9⟩;have F9:=F7.adv b9 F7.sz;have HYES:=lY (HX.out);clear b9 F7 MK ADD;obtain⟨cF0,cF1,cF2⟩:=F9.kr.cell;obtain⟨fF0,fF1,fF2⟩:=F9.kr.frozen;generalize bH neg (K+1) (e+(D:Int))=r at *;obtain⟨A9,p9,c9,f9,rfl,m9⟩:=n9;go_wp2_with fail;rw[HYES.out]
       refine bodyPost_ret (v:=.tuple #[.agg #[.bool r.neg,.slice A9 p9 c9,.int .i64 r.e],.bool r.ok]) (by simp[results,oY,go_sem,cF0,cF1,cF2]) rfl
        ⟨_,rfl,am.put3 ⟨A9,p9,c9,f9,rfl,m9⟩ F9.kr (aD _) (av _ _ _) (aI _) _ _ _,ak F9.bel (by omega) F9.bel.size _ _ _⟩
     . have hun':(neg != up)=false:=by simpa using hun
       rw[hun'];have HX:=lY (HR0.out (by rw[hun'];simp));go_wp2_with fail;refine(MK.out A3 p3 c3 K w5 G5 n35 (by have:=hq9.out;omega)).mono ?_;rintro e' w9 ⟨v9,rfl,n9,b9⟩;have F9:=G5.adv b9 G5.sz;have HYES:=lY (HX.out);clear b9 G5 MK ADD;obtain⟨cF0,cF1,cF2⟩:=F9.kr.cell;obtain⟨fF0,fF1,fF2⟩:=F9.kr.frozen;generalize bH neg K (e+(D:Int))=r at *;obtain⟨A9,p9,c9,f9,rfl,m9⟩:=n9;go_wp2_with fail;rw[HYES.out]
       refine bodyPost_ret (v:=.tuple #[.agg #[.bool r.neg,.slice A9 p9 c9,.int .i64 r.e],.bool r.ok]) (by simp[results,oY,go_sem,cF0,cF1,cF2]) rfl
        ⟨_,rfl,am.put3 ⟨A9,p9,c9,f9,rfl,m9⟩ F9.kr (aD _) (av _ _ _) (aI _) _ _ _,ak F9.bel (by omega) F9.bel.size _ _ _⟩
 . go_wp2_with fail
   refine(AW.out w3).mono ?_;rintro e' w6 ⟨rfl,rfl⟩
   by_cases hun:(neg != up)=true
   . rw[hun]
     have HX:=lY (HR1.out (by rw[hun];simp[]));have AD:=lY (ADD.out w3 G.bel n3);go_wp2_with fail;refine AD.out.mono ?_;rintro e' w7 ⟨A4,p4,c4,rfl,n4,b⟩;have F7:=G.adv b G.sz;clear b G AD;go_wp2_with fail;refine(MK.out A4 p4 c4 (K+1) w7 F7 n4 (by have:=iO K;have:=hq9.out;omega)).mono ?_;rintro e' w9 ⟨v9,rfl,n9,b9⟩;have F9:=F7.adv b9 F7.sz;have HYES:=lY (HX.out);clear b9 F7 MK ADD;obtain⟨cF0,cF1,cF2⟩:=F9.kr.cell;obtain⟨fF0,fF1,fF2⟩:=F9.kr.frozen;generalize bH neg (K+1) (e+(D:Int))=r at *;obtain⟨A9,p9,c9,f9,rfl,m9⟩:=n9;go_wp2_with fail;rw[HYES.out]
     refine bodyPost_ret (v:=.tuple #[.agg #[.bool r.neg,.slice A9 p9 c9,.int .i64 r.e],.bool r.ok]) (by simp[results,oY,go_sem,cF0,cF1,cF2]) rfl
      ⟨_,rfl,am.put3 ⟨A9,p9,c9,f9,rfl,m9⟩ F9.kr (aD _) (av _ _ _) (aI _) _ _ _,ak F9.bel (by omega) F9.bel.size _ _ _⟩
   . have hun':(neg != up)=false:=by simpa using hun
     rw[hun'];have HX:=lY (HR0.out (by rw[hun'];simp));go_wp2_with fail;refine(MK.out A3 p3 c3 K w3 G n3 (by have:=hq9.out;omega)).mono ?_;rintro e' w9 ⟨v9,rfl,n9,b9⟩;have F9:=G.adv b9 G.sz;have HYES:=lY (HX.out);clear b9 G MK ADD;obtain⟨cF0,cF1,cF2⟩:=F9.kr.cell;obtain⟨fF0,fF1,fF2⟩:=F9.kr.frozen;generalize bH neg K (e+(D:Int))=r at *;obtain⟨A9,p9,c9,f9,rfl,m9⟩:=n9;go_wp2_with fail;rw[HYES.out]
     refine bodyPost_ret (v:=.tuple #[.agg #[.bool r.neg,.slice A9 p9 c9,.int .i64 r.e],.bool r.ok]) (by simp[results,oY,go_sem,cF0,cF1,cF2]) rfl
      ⟨_,rfl,am.put3 ⟨A9,p9,c9,f9,rfl,m9⟩ F9.kr (aD _) (av _ _ _) (aI _) _ _ _,ak F9.bel (by omega) F9.bel.size _ _ _⟩
theorem Cb {V P:Nat}(neg up:Bool)(e:Int)(h:nb V<=P):cj neg V e false P up=bH neg V e:=by
 unfold cj;rw[show nb V-P=0 by omega]
 simp
theorem BK {V D:Nat}(h:V%2=1)(hD:0 < D):V/2^D*2^D≠V:=fun e=>by
 rw[show D=(D-1)+1 by omega,Nat.pow_succ,← Nat.mul_assoc]at e;generalize V/(2^(D-1)*2)*2^(D-1)=q at e;omega
theorem yV (neg:Bool)(A:OA)(n c:Nat)(x:Nat->Nat)(e p:Int)(up:Bool)(w:World)(ha:Sl w A n c x)(hn:n<=400000)(hT:bx w):
 Calls oM 107 #[aP neg A n c e,.int .i64 p,.bool up] w (fI w (oZ (aj neg n x e && aJ p) neg (vs ai x n) e p up)):=by
 have S:=F2.start w neg A n c e hT;go_enter Tryz.func107,Tryz.ntmps107;go_wp2_with fail;generalize(w.alloc (.cells #[.bool neg,.slice A n c,.int .i64 e] 24)).alloc (.cells #[.bool false,.slice none 0 0,.int .i64 0] 24)=w1 at *;refine(dr neg A n c x e w1 (ha.below S.bel) hn).mono ?_;rintro e' w2 ⟨rfl,b⟩;have F:=S.adv b;clear S b;obtain⟨ca0,ca1,ca2⟩:=F.ka.cell
 by_cases hp:aj neg n x e=true
 . have PF:=aS hp
   have e1:=PF.e1;have e2:=PF.e2;rw[hp]
   by_cases h1:p < 1
   . have HNO:=lY (show oZ (aj neg n x e && aJ p) neg (vs ai x n) e p up=DR.no by rw[show aJ p=false by unfold aJ;simp;omega];simp[oZ])
     obtain⟨zr0,zr1,zr2⟩:=F.kr.cell;obtain⟨yr0,yr1,yr2⟩:=F.kr.frozen;go_wp2_with fail;rw[HNO.out];refine bodyPost_ret (v:=.tuple #[.agg #[.bool false,.slice none 0 0,.int .i64 0],.bool false]) (by simp[results,mF,go_sem,zr0,zr1,zr2]) rfl ⟨_,rfl,aq _,ak F.bel (by omega) F.bel.size _ _ _⟩
   . by_cases h2:8192 < p
     . have HNO:=lY (show oZ (aj neg n x e && aJ p) neg (vs ai x n) e p up=DR.no by rw[show aJ p=false by unfold aJ;simp;omega];simp[oZ])
       obtain⟨zr0,zr1,zr2⟩:=F.kr.cell;obtain⟨yr0,yr1,yr2⟩:=F.kr.frozen;go_wp2_with fail;rw[HNO.out];refine bodyPost_ret (v:=.tuple #[.agg #[.bool false,.slice none 0 0,.int .i64 0],.bool false]) (by simp[results,mF,go_sem,zr0,zr1,zr2]) rfl ⟨_,rfl,aq _,ak F.bel (by omega) F.bel.size _ _ _⟩
     . have HYES:=lY (show oZ (aj neg n x e && aJ p) neg (vs ai x n) e p up=cj neg (vs ai x n) e false p.toNat up by rw[hp,show aJ p=true by unfold aJ;simp;omega];rfl)
       obtain⟨P,rfl⟩:∃ P:Nat,p=(P:Int):=⟨p.toNat,by omega⟩;rw[Int.toNat_natCast]at HYES;have NA:=PF.num (ha.below F.bel);have hbits:=PF.bits;have hodd:Hid (0 < vs ai x n->vs ai x n%2=1):=lY (fun h=>PF.odd (PF.pos.2 h));have BT:=lY (nH w2 NA (by omega));clear hp PF;generalize vs ai x n=V at *;obtain⟨L,hL⟩:∃ L,Hid (L=nb V):=⟨_,lY rfl⟩;rw[← hL.out]at hbits BT;go_wp2_with fail;refine BT.out.mono ?_;rintro e' w3 ⟨rfl,b⟩;have G:=F.adv b;have NA3:=NA.below b;clear F b BT NA ca0 ca1 ca2;obtain⟨ca0,ca1,ca2⟩:=G.ka.cell
       by_cases hk:(L:Int)-(P:Int)<=0
       . have HR:=lY (Cb (P:=P) neg up e (V:=V) (by rw[← hL.out];omega))
         have MK:=lY (lO neg e w3 NA3 (by rw[← hL.out];omega) G.tab (by omega) (by omega));rw[HR.out]at HYES;go_wp2_with fail;refine MK.out.mono ?_;rintro e' w9 ⟨v9,rfl,n9,b9⟩;have F9:=G.adv b9;clear b9 G ca0 ca1 ca2 HR MK;obtain⟨cF0,cF1,cF2⟩:=F9.kr.cell;obtain⟨fF0,fF1,fF2⟩:=F9.kr.frozen;generalize bH neg V e=r at *;obtain⟨A9,p9,c9,f9,rfl,m9⟩:=n9;go_wp2_with fail;rw[HYES.out]
         refine bodyPost_ret (v:=.tuple #[.agg #[.bool r.neg,.slice A9 p9 c9,.int .i64 r.e],.bool r.ok]) (by simp[results,mF,go_sem,cF0,cF1,cF2]) rfl
          ⟨_,rfl,am.put3 ⟨A9,p9,c9,f9,rfl,m9⟩ F9.kr (aD _) (av _ _ _) (aI _) _ _ _,ak F9.bel (by omega) F9.bel.size _ _ _⟩
       . obtain⟨D,hD⟩:∃ D,Hid (D=L-P):=⟨_,lY rfl⟩
         have hkd:(L:Int)-(P:Int)=(D:Int):=by have:=hD.out;omega
         have hD0:¬ (D:Int)<=0:=by omega
         have hD1:0 < D:=by omega
         have hD2:D<=16384:=by omega
         have SR:=lY (yN (s:=D) w3 NA3 (by rw[← hL.out];omega) (by omega));have AW:=lY (tX neg up);obtain⟨K,hK⟩:∃ K,Hid (K=V/2^D):=⟨_,lY rfl⟩
         have hV0:0 < V:=by
          rcases Nat.eq_zero_or_pos V with h | h
          . have:=hL.out;rw[h,aX]at this;omega
          . exact h
         have HR0:Hid ((neg != up)=false->cj neg V e false P up=bH neg K (e+(D:Int))):=lY (fun ht=>by
          rw[show(neg != up)=(up != neg) by cases neg <;> cases up <;> rfl]at ht
          unfold cj;rw[← hL.out,← hD.out,← hK.out,ht,Bool.and_false];rfl)
         have HR1:Hid ((neg != up)=true->cj neg V e false P up=bH neg (K+1) (e+(D:Int))):=lY (fun ht=>by
          rw[show(neg != up)=(up != neg) by cases neg <;> cases up <;> rfl]at ht
          unfold cj;rw[← hL.out,← hD.out]
          have:=BK (hodd.out hV0) hD1
          rw[← hK.out]at this ⊢
          simp[this,ht])
         have hq9:Hid (nb K<=16384):=lY (by rw[hK.out];have:=pO V D;have:=hL.out;omega);rw[← hK.out]at SR;clear hk hL hD hodd;go_wp2_with fail;refine SR.out.mono ?_;rintro e' w4 ⟨A3,p3,c3,rfl,n3,b⟩;have G4:=G.adv b;clear G b SR NA3 ca0 ca1 ca2;obtain⟨ca0,ca1,ca2⟩:=G4.ka.cell;go_wp2_with fail;refine(AW.out w4).mono ?_;rintro e' w6 ⟨rfl,rfl⟩
         by_cases hun:(neg != up)=true
         . rw[hun]
           have HX:=lY (HR1.out hun);rw[HX.out]at HYES;have bA3:Below w4.heap.size w4 (w4.alloc (.cells #[.int .u64 ((1:Nat):Int)] 51)):=(Below.refl _ w4).alloc (Nat.le_refl _) _;have o3:=gf 51 w4 1 (by unfold ai;omega);have AD:=lY (yZ _ (n3.below bA3) (sT o3 (by omega)) (by have:=hq9.out;omega) (by rw[zz];omega));go_wp2_with fail;refine AD.out.mono ?_;rintro e' w7 ⟨A4,p4,c4,rfl,n4,b⟩;have F7:=G4.adv (bA3.trans (b.mono bA3.size));have MK:=lY (lO neg (e+(D:Int)) w7 n4 (by have:=iO K;have:=hq9.out;omega) F7.tab (by omega) (by omega));clear b G4 AD bA3 o3 ca0 ca1 ca2;obtain⟨ca0,ca1,ca2⟩:=F7.ka.cell;go_wp2_with fail;refine MK.out.mono ?_;rintro e' w9 ⟨v9,rfl,n9,b9⟩;have F9:=F7.adv b9;clear b9 F7 ca0 ca1 ca2 HX MK;obtain⟨cF0,cF1,cF2⟩:=F9.kr.cell;obtain⟨fF0,fF1,fF2⟩:=F9.kr.frozen;generalize bH neg (K+1) (e+(D:Int))=r at *;obtain⟨A9,p9,c9,f9,rfl,m9⟩:=n9;go_wp2_with fail;rw[HYES.out]
           refine bodyPost_ret (v:=.tuple #[.agg #[.bool r.neg,.slice A9 p9 c9,.int .i64 r.e],.bool r.ok]) (by simp[results,mF,go_sem,cF0,cF1,cF2]) rfl
            ⟨_,rfl,am.put3 ⟨A9,p9,c9,f9,rfl,m9⟩ F9.kr (aD _) (av _ _ _) (aI _) _ _ _,ak F9.bel (by omega) F9.bel.size _ _ _⟩
         . have hun':(neg != up)=false:=by simpa using hun
           rw[hun'];have HX:=lY (HR0.out hun');rw[HX.out]at HYES;have MK:=lY (lO neg (e+(D:Int)) w4 n3 (by have:=hq9.out;omega) G4.tab (by omega) (by omega));go_wp2_with fail;refine MK.out.mono ?_;rintro e' w9 ⟨v9,rfl,n9,b9⟩;have F9:=G4.adv b9;clear b9 G4 ca0 ca1 ca2 HX MK;obtain⟨cF0,cF1,cF2⟩:=F9.kr.cell;obtain⟨fF0,fF1,fF2⟩:=F9.kr.frozen;generalize bH neg K (e+(D:Int))=r at *;obtain⟨A9,p9,c9,f9,rfl,m9⟩:=n9;go_wp2_with fail;rw[HYES.out]
           refine bodyPost_ret (v:=.tuple #[.agg #[.bool r.neg,.slice A9 p9 c9,.int .i64 r.e],.bool r.ok]) (by simp[results,mF,go_sem,cF0,cF1,cF2]) rfl
            ⟨_,rfl,am.put3 ⟨A9,p9,c9,f9,rfl,m9⟩ F9.kr (aD _) (av _ _ _) (aI _) _ _ _,ak F9.bel (by omega) F9.bel.size _ _ _⟩
 . have hp':aj neg n x e=false:=by simpa using hp
   rw[hp'];have HNO:=lY (show oZ (aj neg n x e && aJ p) neg (vs ai x n) e p up=DR.no by rw[hp'];simp[oZ]);obtain⟨zr0,zr1,zr2⟩:=F.kr.cell;obtain⟨yr0,yr1,yr2⟩:=F.kr.frozen;go_wp2_with fail;rw[HNO.out];refine bodyPost_ret (v:=.tuple #[.agg #[.bool false,.slice none 0 0,.int .i64 0],.bool false]) (by simp[results,mF,go_sem,zr0,zr1,zr2]) rfl ⟨_,rfl,aq _,ak F.bel (by omega) F.bel.size _ _ _⟩
theorem bQ {V U:Nat}(h:V<=U):nb V<=nb U:=(bi _ _).2 (Nat.lt_of_le_of_lt h (dZ U))
theorem Bs (na nb':Bool){Va Vb:Nat}(ea eb:Int){p:Nat}(up:Bool)(hb:0 < Vb)(hp:1<=p):
 mC na nb' Va Vb ea eb (p+2+nb Vb-nb Va) p up=mC na nb' Va Vb ea eb (p+nb Vb-nb Va) p up:=by
 obtain⟨j,hj⟩:∃ j,p+2+nb Vb-nb Va=(p+nb Vb-nb Va)+j:=⟨(p+2+nb Vb-nb Va)-(p+nb Vb-nb Va),by omega⟩;rw[hj];exact zf (na != nb') up (ea-eb) hb (by omega) hp
theorem xh (na nb':Bool)(A B:OA)(n c m d:Nat)(x y:Nat->Nat)(ea eb p:Int)(up:Bool)(w:World)(ha:Sl w A n c x)(hb:Sl w B m d y)(hn:n<=400000)(hm:m<=400000)(hT:bx w):
 Calls oM 101 #[aP na A n c ea,aP nb' B m d eb,.int .i64 p,.bool up] w
  (fI w (dX (aj na n x ea && aj nb' m y eb && !decide (m=0) && aJ p) na nb' (vs ai x n) (vs ai y m) ea eb p up)):=by
 have S:=F3.start w na A n c ea nb' B m d eb hT;go_enter Tryz.func101,Tryz.ntmps101;go_wp2_with fail;generalize((w.alloc (.cells #[.bool na,.slice A n c,.int .i64 ea] 24)).alloc (.cells #[.bool nb',.slice B m d,.int .i64 eb] 24)).alloc (.cells #[.bool false,.slice none 0 0,.int .i64 0] 24)=w1 at *;refine(dr na A n c x ea w1 (ha.below S.bel) hn).mono ?_;rintro e' w2 ⟨rfl,b⟩;have F2:=S.adv b;clear S b
 by_cases hpa:aj na n x ea=true
 . rw[hpa]
   obtain⟨cb0,cb1,cb2⟩:=F2.kb.cell;go_wp2_with fail;refine(dr nb' B m d y eb w2 (hb.below F2.bel) hm).mono ?_;rintro e' w3 ⟨rfl,b⟩;have F3':=F2.adv b;clear F2 b cb0 cb1 cb2
   by_cases hpb:aj nb' m y eb=true
   . rw[hpb]
     obtain⟨cb0,cb1,cb2⟩:=F3'.kb.cell
     by_cases h1:p < 1
     . have HNO:=lY (show dX (aj na n x ea && aj nb' m y eb && !decide (m=0) && aJ p) na nb' (vs ai x n) (vs ai y m) ea eb p up=DR.no by rw[show aJ p=false by unfold aJ;simp;omega];simp[dX])
       obtain⟨zr0,zr1,zr2⟩:=F3'.kr.cell;obtain⟨yr0,yr1,yr2⟩:=F3'.kr.frozen;go_wp2_with fail;rw[HNO.out];refine bodyPost_ret (v:=.tuple #[.agg #[.bool false,.slice none 0 0,.int .i64 0],.bool false]) (by simp[results,ou,go_sem,zr0,zr1,zr2]) rfl ⟨_,rfl,aq _,ak F3'.bel (by omega) F3'.bel.size _ _ _⟩
     . by_cases h2:8192 < p
       . have HNO:=lY (show dX (aj na n x ea && aj nb' m y eb && !decide (m=0) && aJ p) na nb' (vs ai x n) (vs ai y m) ea eb p up=DR.no by rw[show aJ p=false by unfold aJ;simp;omega];simp[dX])
         obtain⟨zr0,zr1,zr2⟩:=F3'.kr.cell;obtain⟨yr0,yr1,yr2⟩:=F3'.kr.frozen;go_wp2_with fail;rw[HNO.out];refine bodyPost_ret (v:=.tuple #[.agg #[.bool false,.slice none 0 0,.int .i64 0],.bool false]) (by simp[results,ou,go_sem,zr0,zr1,zr2]) rfl ⟨_,rfl,aq _,ak F3'.bel (by omega) F3'.bel.size _ _ _⟩
       . by_cases hm0:m=0
         . have HNO:=lY (show dX (aj na n x ea && aj nb' m y eb && !decide (m=0) && aJ p) na nb' (vs ai x n) (vs ai y m) ea eb p up=DR.no by simp[hm0,dX])
           have hmb:((m:Int) == 0)=true:=by simp[hm0]
           obtain⟨zr0,zr1,zr2⟩:=F3'.kr.cell;obtain⟨yr0,yr1,yr2⟩:=F3'.kr.frozen;go_wp2_with fail;rw[HNO.out];refine bodyPost_ret (v:=.tuple #[.agg #[.bool false,.slice none 0 0,.int .i64 0],.bool false]) (by simp[results,ou,go_sem,zr0,zr1,zr2]) rfl ⟨_,rfl,aq _,ak F3'.bel (by omega) F3'.bel.size _ _ _⟩
         . have hmb:((m:Int) == 0)=false:=by simp[hm0]
           have PA:=aS hpa;have PB:=aS hpb;have HVB:=lY (PB.pos.1 (by omega));obtain⟨P,rfl⟩:∃ P:Nat,p=(P:Int):=⟨p.toNat,by omega⟩
           have HYES:=lY (show dX (aj na n x ea && aj nb' m y eb && !decide (m=0) && aJ (P:Int)) na nb' (vs ai x n) (vs ai y m) ea eb (P:Int) up=mC na nb' (vs ai x n) (vs ai y m) ea eb (P+2+nb (vs ai y m)-nb (vs ai x n)) P up by
            rw[Bs na nb' ea eb up HVB.out (by omega),hpa,hpb,show aJ (P:Int)=true by unfold aJ;simp;omega];simp[hm0,dX])
           have hP1:1<=P:=by omega
           have hP2:P<=8192:=by omega
           have ea1:=PA.e1;have ea2:=PA.e2;have eb1:=PB.e1;have eb2:=PB.e2;have hba:=PA.bits;have hbb:=PB.bits;have NA:=PA.num ha;have NB:=PB.num hb;clear hpa hpb PA PB;generalize vs ai x n=Va at *;generalize vs ai y m=Vb at *;obtain⟨La,hLa⟩:∃ L,Hid (L=nb Va):=⟨_,lY rfl⟩;obtain⟨Lb,hLb⟩:∃ L,Hid (L=nb Vb):=⟨_,lY rfl⟩;rw[← hLa.out]at hba;rw[← hLb.out]at hbb;rw[← hLa.out,← hLb.out]at HYES
           have BA:Hid (∀ w',Below w.heap.size w w'->Calls oM 84 #[.slice A n c] w' (IP w' (La:Int))):=lY (fun w' h=>by
            rw[hLa.out];exact nH w' (NA.below h) (by rw[← hLa.out];omega))
           have BB:Hid (∀ w',Below w.heap.size w w'->Calls oM 84 #[.slice B m d] w' (IP w' (Lb:Int))):=lY (fun w' h=>by
            rw[hLb.out];exact nH w' (NB.below h) (by rw[← hLb.out];omega))
           obtain⟨R,hR⟩:∃ R,Hid (R=P+2+Lb-La):=⟨_,lY rfl⟩;rw[← hR.out]at HYES
           have hR1:R<=24578:=by have:=hR.out;omega
           obtain⟨Q0,hQ0⟩:∃ Q:Nat,Hid (Q=P+2):=⟨_,lY rfl⟩;obtain⟨Q1,hQ1⟩:∃ Q:Nat,Hid (Q=Q0+Lb):=⟨_,lY rfl⟩;obtain⟨Z1,hZ1⟩:∃ Z:Int,Hid (Z=(Q1:Int)-(La:Int)):=⟨_,lY rfl⟩
           have hw0:IntKind.i64.wrap ((P:Int)+2)=(Q0:Int):=by rw[aE (by omega) (by omega)];have:=hQ0.out;omega
           have hw1:IntKind.i64.wrap ((Q0:Int)+(Lb:Int))=(Q1:Int):=by have:=hQ0.out;rw[aE (by omega) (by omega)];have:=hQ1.out;omega
           have hw2:IntKind.i64.wrap ((Q1:Int)-(La:Int))=Z1:=by have:=hQ0.out;have:=hQ1.out;have:=hZ1.out;rw[aE (by omega) (by omega)];omega
           have hmax:max 0 Z1=(R:Int):=by have:=hR.out;have:=hQ0.out;have:=hQ1.out;have:=hZ1.out;omega
           have SX:=F3'.drew.six;unfold yh at SX;have SX1:=And.intro SX.1.2.1 SX.2.2.1;clear SX;go_wp2_with fail
           go_region_held3 (fun w'=>w'.cell? ⟨w.heap.size,1,none⟩=some (.slice A n c)/\w'.cell? ⟨w.heap.size+1,1,none⟩=some (.slice B m d))
            (first | exact⟨S5.six.1.2.1,S5.six.2.2.1⟩ | exact⟨S4.six.1.2.1,S4.six.2.2.1⟩ | exact SX1)
            (first
             | (go_at_call_of 84 (Value.slice B m d);refine(BB.out _ F3'.drew.bel).mono ?_;rintro e' w4 ⟨rfl,b⟩;have S4:=F3'.drew.adv b;clear b)
             | (go_at_call_of 84 (Value.slice A n c);refine(BA.out _ S4.bel).mono ?_;rintro e' w5 ⟨rfl,b⟩;have S5:=S4.adv b;clear b))
           clear F3' S4 SX1 hw0 hw1 hw2 hmax hZ1 hQ1 hQ0 BA BB cb0 cb1 cb2;have SHL:Hid (∀ w',Below w.heap.size w w'->Calls oM 114 #[.slice A n c,.int .i64 (R:Int)] w' (NP w' (Va*2^R))):=lY (fun w' h=>vW w' (NA.below h) (by rw[← hLa.out];omega) (by omega));have hbs:Hid (nb (Va*2^R)<=100000):=lY (by have:=iv Va R;have:=hLa.out;omega);have DM:Hid (∀ w' A6 p6 c6,Below w.heap.size w w'->am w' (.slice A6 p6 c6) (Va*2^R)->Calls oM 159 #[.slice A6 p6 c6,.slice B m d] w' (Fz w' (Va*2^R/Vb) (Va*2^R%Vb))):=lY (fun w' A6 p6 c6 h h6=>EN w' h6 (NB.below h) (by have:=hbs.out;omega) (by rw[← hLb.out];omega) HVB.out);have SX:=S5.drew.six;unfold yh at SX;have SX1:=And.intro SX.1.2.1 SX.2.2.1;clear SX;go_wp2_with fail
           go_region_held3 (fun w'=>w'.cell? ⟨w.heap.size,1,none⟩=some (.slice A n c)/\w'.cell? ⟨w.heap.size+1,1,none⟩=some (.slice B m d))
            (first | exact⟨S7.six.1.2.1,S7.six.2.2.1⟩ | exact⟨S6.six.1.2.1,S6.six.2.2.1⟩ | exact SX1)
            (first
             | (go_at_call 114;refine(SHL.out _ S5.drew.bel).mono ?_;rintro e' w6 ⟨A6,p6,c6,rfl,n6,b⟩;have S6:=S5.drew.adv b;clear b)
             | (go_at_call 159;refine(DM.out w6 A6 p6 c6 S6.bel n6).mono ?_;rintro e' w7 ⟨A7,p7,c7,A8,p8,c8,rfl,n7,n8,b⟩;have S7:=S6.adv b;clear b))
           clear S5 S6 SX1 SHL DM n6;have hq9:Hid (nb (Va*2^R/Vb)<=100000):=lY (Nat.le_trans (bQ (Nat.div_le_self _ _)) hbs.out);obtain⟨M,hM⟩:∃ M:Bool,Hid (M=decide (Va*2^R%Vb≠0)):=⟨_,lY rfl⟩
           have hr9:p8<=300:=n8.len 300 (by
            have h1:=Nat.mod_lt (Va*2^R) HVB.out;have h2:=(bi (Va*2^R%Vb) (nb Vb)).2 (Nat.lt_trans h1 (dZ Vb))
            rw[← hLb.out]at h2;omega)
           have hp8:decide (0 < p8)=M:=by
            have h:=n8.empty;rw[hM.out]
            rcases Nat.eq_zero_or_pos p8 with h0 | h0
            . rw[show decide (0 < p8)=false by simp[h0]];simp[h.1 h0]
            . have:¬ Va*2^R%Vb=0:=fun h1=>by have:=h.2 h1;omega
              simp[h0,this]
           have HQ:Hid (cj (na != nb') (Va*2^R/Vb) (ea-eb-(R:Int)) M P up=mC na nb' Va Vb ea eb R P up):=lY (by rw[hM.out];rfl);have CU:=lY (mw (na != nb') A7 p7 c7 (Va*2^R/Vb) (ea-eb-(R:Int)) M P up w7 n7 (by have:=hq9.out;omega) hP2 S7.tab (by omega) (by omega));rw[HQ.out]at CU;obtain⟨ca0,ca1,ca2⟩:=S7.ka.cell;obtain⟨cb0,cb1,cb2⟩:=S7.kb.cell;clear n7 n8 HQ hM hq9 hbs hLa hLb hR HVB;go_wp2_with fail;refine CU.out.mono ?_;rintro e' w9 ⟨v9,rfl,n9,b9⟩;have F9:=S7.adv b9;clear b9 S7 ca0 ca1 ca2 cb0 cb1 cb2 CU;obtain⟨cF0,cF1,cF2⟩:=F9.kr.cell;obtain⟨fF0,fF1,fF2⟩:=F9.kr.frozen;generalize mC na nb' Va Vb ea eb R P up=r at *;obtain⟨A9,p9,c9,f9,rfl,m9⟩:=n9;go_wp2_with fail;rw[HYES.out]
           refine bodyPost_ret (v:=.tuple #[.agg #[.bool r.neg,.slice A9 p9 c9,.int .i64 r.e],.bool r.ok]) (by simp[results,ou,go_sem,cF0,cF1,cF2]) rfl
            ⟨_,rfl,am.put3 ⟨A9,p9,c9,f9,rfl,m9⟩ F9.kr (aD _) (av _ _ _) (aI _) _ _ _,ak F9.bel (by omega) F9.bel.size _ _ _⟩
   . have hpb':aj nb' m y eb=false:=by simpa using hpb
     rw[hpb'];have HNO:=lY (show dX (aj na n x ea && aj nb' m y eb && !decide (m=0) && aJ p) na nb' (vs ai x n) (vs ai y m) ea eb p up=DR.no by rw[hpb'];simp[dX]);obtain⟨zr0,zr1,zr2⟩:=F3'.kr.cell;obtain⟨yr0,yr1,yr2⟩:=F3'.kr.frozen;go_wp2_with fail;rw[HNO.out];refine bodyPost_ret (v:=.tuple #[.agg #[.bool false,.slice none 0 0,.int .i64 0],.bool false]) (by simp[results,ou,go_sem,zr0,zr1,zr2]) rfl ⟨_,rfl,aq _,ak F3'.bel (by omega) F3'.bel.size _ _ _⟩
 . have hpa':aj na n x ea=false:=by simpa using hpa
   rw[hpa'];have HNO:=lY (show dX (aj na n x ea && aj nb' m y eb && !decide (m=0) && aJ p) na nb' (vs ai x n) (vs ai y m) ea eb p up=DR.no by rw[hpa'];simp[dX]);obtain⟨zr0,zr1,zr2⟩:=F2.kr.cell;obtain⟨yr0,yr1,yr2⟩:=F2.kr.frozen;go_wp2_with fail;rw[HNO.out];refine bodyPost_ret (v:=.tuple #[.agg #[.bool false,.slice none 0 0,.int .i64 0],.bool false]) (by simp[results,ou,go_sem,zr0,zr1,zr2]) rfl ⟨_,rfl,aq _,ak F2.bel (by omega) F2.bel.size _ _ _⟩
end Go.Proofs.YtmbmohibpkepdaaGreatDoor
