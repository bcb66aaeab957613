import Derived.Test.YtmbmohibpkepdaaGreatDoorPlSGDy3
set_option maxHeartbeats 4000000
open Go.Lib renaming hid->lY
open Go.Proofs.Tryz renaming results152->mF, results124->oM, results82->qK, prog->tz
open Go.World renaming setCell->ou
open Nat renaming le_refl->oY
namespace Go.Proofs.YtmbmohibpkepdaaGreatDoor
open Go.RowKit
variable {a b c:Value} {g:Nat} {w:World}
def mC (na nb':Bool)(Va Vb:Nat)(ea eb:Int)(r p:Nat)(up:Bool):DR :=
 cj (na != nb') (Va*2^r/Vb) (ea-eb-(r:Int)) (decide (Va*2^r%Vb≠0)) p up
def dX (ok:Bool)(na nb':Bool)(Va Vb:Nat)(ea eb:Int)(p:Int)(up:Bool):DR :=
 if ok then mC na nb' Va Vb ea eb (p.toNat+nb Vb-nb Va) p.toNat up else DR.no
theorem zp (na nb':Bool)(A B:OA)(n c m d:Nat)(x y:Nat->Nat)(ea eb p:Int)(up:Bool)(w:World)(ha:Sl w A n c x)(hb:Sl w B m d y)(hn:n<=400000)(hm:m<=400000)(hT:bx w):
 Calls tz 152 #[aP na A n c ea,aP nb' B m d eb,.int .i64 p,.bool up] w
  (fI w (dX (aj na n x ea && aj nb' m y eb && !decide (m=0) && aJ p) na nb' (vs ai x n) (vs ai y m) ea eb p up)):=by
 have S:=F3.start w na A n c ea nb' B m d eb hT;go_enter Tryz.func152,Tryz.ntmps152;go_wp2_with fail;generalize((w.alloc (.cells #[.bool na,.slice A n c,.int .i64 ea] 24)).alloc (.cells #[.bool nb',.slice B m d,.int .i64 eb] 24)).alloc (.cells #[.bool false,.slice none 0 0,.int .i64 0] 24)=w1 at *;refine(jE na A n c x ea w1 (ha.below S.bel) hn).mono ?_;rintro e' w2 ⟨rfl,b⟩;have F2:=S.adv b;clear S b
 by_cases hpa:aj na n x ea=true
 . rw[hpa]
   obtain⟨cb0,cb1,cb2⟩:=F2.kb.cell;go_wp2_with fail;refine(jE nb' B m d y eb w2 (hb.below F2.bel) hm).mono ?_;rintro e' w3 ⟨rfl,b⟩;have F3':=F2.adv b;clear F2 b cb0 cb1 cb2
   by_cases hpb:aj nb' m y eb=true
   . rw[hpb]
     obtain⟨cb0,cb1,cb2⟩:=F3'.kb.cell;go_wp2_with fail;refine(kj nb' B m d eb w3 (by omega)).mono ?_;rintro e' w4 ⟨rfl,b⟩;have F4:=F3'.adv b;clear F3' b cb0 cb1 cb2
     by_cases hm0:m=0
     . rw[show decide (m=0)=true by simp[hm0]]
       have HNO:=lY (show dX (aj na n x ea && aj nb' m y eb && !decide (m=0) && aJ p) na nb' (vs ai x n) (vs ai y m) ea eb p up=DR.no by rw[hpa,hpb];simp[hm0,dX]);obtain⟨cr0,cr1,cr2⟩:=F4.kr.cell;obtain⟨fr0,fr1,fr2⟩:=F4.kr.frozen;go_wp2_with fail;rw[HNO.out];refine bodyPost_ret (v:=.tuple #[.agg #[.bool false,.slice none 0 0,.int .i64 0],.bool false]) (by simp[results,mF,go_sem,cr0,cr1,cr2]) rfl ⟨_,rfl,aq _,ak F4.bel (by omega) F4.bel.size _ _ _⟩
     . rw[show decide (m=0)=false by simp[hm0]]
       go_wp2_with fail;refine(tV p w4).mono ?_;rintro e' w5 ⟨rfl,rfl⟩
       by_cases hfit:aJ p=true
       . rw[hfit]
         have HYES:=lY (show dX (aj na n x ea && aj nb' m y eb && !decide (m=0) && aJ p) na nb' (vs ai x n) (vs ai y m) ea eb p up=mC na nb' (vs ai x n) (vs ai y m) ea eb (p.toNat+nb (vs ai y m)-nb (vs ai x n)) p.toNat up by rw[hpa,hpb,hfit];simp[hm0,dX]);have PA:=aS hpa;have PB:=aS hpb
         have hp12:1<=p/\p<=8192:=by unfold aJ at hfit;simpa using hfit
         obtain⟨P,rfl⟩:∃ P:Nat,p=(P:Int):=⟨p.toNat,by omega⟩;rw[Int.toNat_natCast]at HYES
         have hP1:1<=P:=by omega
         have hP2:P<=8192:=by omega
         have ln:=PA.len;have lm:=PB.len;have hba:=PA.bits;have hbb:=PB.bits;have ea1:=PA.e1;have ea2:=PA.e2;have eb1:=PB.e1;have eb2:=PB.e2;have HVB:=lY (PB.pos.1 (by omega));clear hpa hpb hfit hp12 PA PB;obtain⟨ca0,ca1,ca2⟩:=F4.ka.cell;obtain⟨cb0,cb1,cb2⟩:=F4.kb.cell;have sa:=ha.below F4.bel;have sb:=hb.below F4.bel;obtain⟨La,hLa⟩:∃ L,Hid (L=nb (vs ai x n)):=⟨_,lY rfl⟩;obtain⟨Lb,hLb⟩:∃ L,Hid (L=nb (vs ai y m)):=⟨_,lY rfl⟩;rw[← hLa.out]at hba;rw[← hLb.out]at hbb;rw[← hLa.out,← hLb.out]at HYES;obtain⟨R,hR⟩:∃ R,Hid (R=P+Lb-La):=⟨_,lY rfl⟩;rw[← hR.out]at HYES
         have hR1:R<=24576:=by have:=hR.out;omega
         obtain⟨Q1,hQ1⟩:∃ Q:Nat,Hid (Q=P+Lb):=⟨_,lY rfl⟩;obtain⟨Z1,hZ1⟩:∃ Z:Int,Hid (Z=(Q1:Int)-(La:Int)):=⟨_,lY rfl⟩
         have hw1:IntKind.i64.wrap ((P:Int)+(Lb:Int))=(Q1:Int):=by rw[aE (by omega) (by omega)];have:=hQ1.out;omega
         have hw2:IntKind.i64.wrap ((Q1:Int)-(La:Int))=Z1:=by have:=hQ1.out;have:=hZ1.out;rw[aE (by omega) (by omega)];omega
         have hmax:max Z1 0=(R:Int):=by have:=hR.out;have:=hQ1.out;have:=hZ1.out;omega
         go_wp2_with fail
         go_region_held3 (fun w'=>w'.cell? ⟨w.heap.size,1,none⟩=some (.slice A n c)/\w'.cell? ⟨w.heap.size+1,1,none⟩=some (.slice B m d)) (exact⟨ca1,cb1⟩)
          (first
           | (go_at_call_of 117 (Value.slice B m d);refine(fs B m d y _ (by first | exact sb | exact sb.drew) (by omega)).mono ?_;rintro e' w5 ⟨Lb',rfl,hLb',rfl⟩;obtain rfl:Lb=Lb':=hLb.out.trans (hJ hLb').symm;clear hLb')
           | (go_at_call_of 117 (Value.slice A n c);refine(fs A n c x _ (by first | exact sa | exact sa.drew) (by omega)).mono ?_;rintro e' w5 ⟨La',rfl,hLa',rfl⟩;obtain rfl:La=La':=hLa.out.trans (hJ hLa').symm;clear hLa'))
         have F5:=F4.drew;have sa5:=sa.drew;have sb5:=sb.drew;clear F4 sa sb ca0 ca1 ca2 cb0 cb1 cb2 hw1 hw2 hmax hZ1 hQ1;obtain⟨ca0,ca1,ca2⟩:=F5.ka.cell;obtain⟨cb0,cb1,cb2⟩:=F5.kb.cell;generalize w4.drew=w5 at *;have KA:Hid (vs ai x n*2^R < ai^(n+(R/64+1))):=lY (xn (bL sa5.small));have KB:=lY (bL sb5.small)
         have SHL:Hid (∀ w',Below w5.heap.size w5 w'->Calls tz 123 #[.slice A n c,.int .i64 (R:Int)] w' fun e w''=>∃ A6 p6 c6 f6,e=.returned (.slice A6 p6 c6)/\Sl w'' A6 p6 c6 f6/\p6<=n+(R/64+1)/\Hid (vs ai f6 p6=vs ai x n*2^R)/\Below w5.heap.size w5 w''):=lY (fun w' h=>by
          refine(mQ A n c x R w' (sa5.below h) (by omega) (by omega)).mono ?_;rintro e' w6 ⟨v6,rfl,n6,b⟩;obtain⟨A6,p6,c6,f6,rfl,q6,lp6,_,e6⟩:=n6.sl' KA.out
          exact⟨A6,p6,c6,f6,rfl,q6,lp6,lY e6,h.trans (b.mono h.size)⟩)
         have hg:w.heap.size+1 < w5.heap.size:=by have:=F5.sz;omega
         have hg0:w.heap.size < w5.heap.size:=by omega
         go_wp2_with fail
         go_region_held3 (fun w'=>w'.cell? ⟨w.heap.size,1,none⟩=some (.slice A n c)/\w'.cell? ⟨w.heap.size+1,1,none⟩=some (.slice B m d))
          (first | exact⟨ca1,cb1⟩ | exact⟨(b7.cell hg0).trans ca1,(b7.cell hg).trans cb1⟩ | exact⟨(b6.cell hg0).trans ca1,(b6.cell hg).trans cb1⟩)
          (first
           | (go_at_call 123;refine(SHL.out _ (by first | exact Below.refl _ _ | exact(Below.refl _ w5).drew)).mono ?_;rintro e' w6 ⟨A6,p6,c6,f6,rfl,q6,lp6,E6,b6⟩)
           | (go_at_call 183;refine(oB A6 B p6 m c6 d f6 y _ (by exact q6) (by exact sb5.below b6) (by omega) (by omega) HVB.out).mono ?_;rintro e' w7 ⟨vq,vr,rfl,nq,nr,b⟩;have b7:=b6.trans (b.mono b6.size);clear b))
         have F7:=F5.adv b7;clear F5 sa5 sb5 SHL q6 ca0 ca1 ca2 cb0 cb1 cb2 b6 b7;rw[E6.out]at nq nr;obtain⟨ca0,ca1,ca2⟩:=F7.ka.cell;obtain⟨cb0,cb1,cb2⟩:=F7.kb.cell;have KQ:Hid (vs ai x n*2^R/vs ai y m < ai^(n+(R/64+1))):=lY (Nat.lt_of_le_of_lt (Nat.div_le_self _ _) KA.out);obtain⟨A7,p7,c7,f7,rfl,q7,lp7,_,e7⟩:=nq.sl' KQ.out;obtain⟨A8,p8,c8,f8,rfl,q8,lp8,cn8,e8⟩:=nr.sl' (K:=m) (Nat.lt_trans (Nat.mod_lt _ HVB.out) KB.out);have E7:=lY e7;obtain⟨M,hM⟩:∃ M:Bool,Hid (M=decide (vs ai x n*2^R%vs ai y m≠0)):=⟨_,lY rfl⟩
         have hp8:decide (0 < p8)=M:=by
          rw[hM.out]
          rcases Nat.eq_zero_or_pos p8 with h | h
          . subst h
            have e0:vs ai x n*2^R%vs ai y m=0:=by rw[← e8,aL]
            simp[e0]
          . have h1:=pj (b:=ai) cn8 h
            have h2:0 < ai^(p8-1):=Nat.pow_pos bm
            have e0:¬ vs ai x n*2^R%vs ai y m=0:=by rw[← e8];omega
            rw[decide_eq_true h,decide_eq_true e0]
         clear nq nr e7 e8 cn8 q8;have bA7:Below w7.heap.size w7 (w7.alloc (.cells #[.bool (na != nb'),.slice A7 p7 c7,.int .i64 (ea-eb-(R:Int))] 24)):=(Below.refl _ w7).alloc (oY _) _;have F8:=F7.adv bA7;have q7':=q7.below bA7;have ST:=uy (na != nb') A7 p7 c7 f7 (ea-eb-(R:Int)) M P up _ q7' (by omega) hP2 F8.tab (by omega) (by omega);rw[E7.out]at ST;have hQ:Hid (cj (na != nb') (vs ai x n*2^R/vs ai y m) (ea-eb-(R:Int)) M P up=mC na nb' (vs ai x n) (vs ai y m) ea eb R P up):=lY (by rw[hM.out];rfl);rw[hQ.out]at ST;have HST:=lY ST;clear ST;go_wp2_with fail;refine HST.out.mono ?_;rintro e' w9 ⟨v9,rfl,n9,b9⟩;have F9:=F8.adv b9;clear F7 F8 b9 HST bA7 q7 q7' ca0 ca1 ca2 cb0 cb1 cb2 hp8 hQ;obtain⟨cF0,cF1,cF2⟩:=F9.kr.cell;obtain⟨fF0,fF1,fF2⟩:=F9.kr.frozen;generalize mC na nb' (vs ai x n) (vs ai y m) ea eb R P up=r at *;obtain⟨A9,p9,c9,f9,rfl,m9⟩:=n9;go_wp2_with fail;rw[HYES.out]
         refine bodyPost_ret (v:=.tuple #[.agg #[.bool r.neg,.slice A9 p9 c9,.int .i64 r.e],.bool r.ok]) (by simp[results,mF,go_sem,cF0,cF1,cF2]) rfl
          ⟨_,rfl,am.put3 ⟨A9,p9,c9,f9,rfl,m9⟩ F9.kr (aD _) (av _ _ _) (aI _) _ _ _,ak F9.bel (by omega) F9.bel.size _ _ _⟩
       . have hfit':aJ p=false:=by simpa using hfit
         rw[hfit'];have HNO:=lY (show dX (aj na n x ea && aj nb' m y eb && !decide (m=0) && aJ p) na nb' (vs ai x n) (vs ai y m) ea eb p up=DR.no by rw[hfit'];simp[dX]);obtain⟨cr0,cr1,cr2⟩:=F4.kr.cell;obtain⟨fr0,fr1,fr2⟩:=F4.kr.frozen;go_wp2_with fail;rw[HNO.out];refine bodyPost_ret (v:=.tuple #[.agg #[.bool false,.slice none 0 0,.int .i64 0],.bool false]) (by simp[results,mF,go_sem,cr0,cr1,cr2]) rfl ⟨_,rfl,aq _,ak F4.bel (by omega) F4.bel.size _ _ _⟩
   . have hpb':aj nb' m y eb=false:=by simpa using hpb
     rw[hpb'];have HNO:=lY (show dX (aj na n x ea && aj nb' m y eb && !decide (m=0) && aJ p) na nb' (vs ai x n) (vs ai y m) ea eb p up=DR.no by rw[hpb'];simp[dX]);obtain⟨cr0,cr1,cr2⟩:=F3'.kr.cell;obtain⟨fr0,fr1,fr2⟩:=F3'.kr.frozen;go_wp2_with fail;rw[HNO.out];refine bodyPost_ret (v:=.tuple #[.agg #[.bool false,.slice none 0 0,.int .i64 0],.bool false]) (by simp[results,mF,go_sem,cr0,cr1,cr2]) rfl ⟨_,rfl,aq _,ak F3'.bel (by omega) F3'.bel.size _ _ _⟩
 . have hpa':aj na n x ea=false:=by simpa using hpa
   rw[hpa'];have HNO:=lY (show dX (aj na n x ea && aj nb' m y eb && !decide (m=0) && aJ p) na nb' (vs ai x n) (vs ai y m) ea eb p up=DR.no by rw[hpa'];simp[dX]);obtain⟨cr0,cr1,cr2⟩:=F2.kr.cell;obtain⟨fr0,fr1,fr2⟩:=F2.kr.frozen;go_wp2_with fail;rw[HNO.out];refine bodyPost_ret (v:=.tuple #[.agg #[.bool false,.slice none 0 0,.int .i64 0],.bool false]) (by simp[results,mF,go_sem,cr0,cr1,cr2]) rfl ⟨_,rfl,aq _,ak F2.bel (by omega) F2.bel.size _ _ _⟩
theorem sX:nb 1=1:=jU (B:=0) (by decide) (by decide)
abbrev cw (r:Nat):Obj:=.cells #[.int .u64 ((r:Nat):Int)] 51
abbrev bJ (a b c:Value):Obj:=.cells #[a,b,c] 24
theorem iN {A:OA}{c r:Nat}(h:Sl w A 1 c (fun _=>r))(h0:r≠0):am w (.slice A 1 c) r:=⟨A,1,c,_,rfl,h,.inr h0,f5 _ _⟩
def ep (p neg:Bool)(n V:Nat)(e:Int):DR:=if p then(if n=0 then DR.zero else⟨true,!neg,V,e⟩) else DR.no
theorem cA.set0 (h:cA w g a b c)(u:Value):cA (w.setCell ⟨g,0,none⟩ u) g u b c:=by
 unfold cA at *
 simp[ou,Array.getElem?_modify,h]
theorem cA.set1 (h:cA w g a b c)(u:Value):cA (w.setCell ⟨g,1,none⟩ u) g a u c:=by
 unfold cA at *
 simp[ou,Array.getElem?_modify,h]
theorem cA.other {g' i:Nat}(h:cA w g' a b c)(u:Value)(hne:g'≠g):cA (w.setCell ⟨g,i,none⟩ u) g' a b c :=
 (Below.heap_setCell w _ u g' (by simpa using hne)).trans h
theorem am.set1 {v:Value}{V i:Nat}{x y z:Value}(h:am w v V)(hb:cA w g x y z)(hx:gp x)(hy:gp y)(hz:gp z)(u:Value):am (w.setCell ⟨g,i,none⟩ u) v V:=by
 obtain⟨A,n,cp,f,hv,hs,hc,he⟩:=h;exact⟨A,n,cp,f,hv,hs.only ((az.refl w g).set_ i u) (hs.apart hb hx hy hz),hc,he⟩
theorem F2.set0 {w1:World}{na:Bool}{A:OA}{n c:Nat}{ea:Int}(h:F2 w w1 na A n c ea)(u:Bool):F2 w (w1.setCell ⟨w.heap.size,0,none⟩ (.bool u)) u A n c ea:=by
 have b:Below w.heap.size w (w1.setCell ⟨w.heap.size,0,none⟩ (.bool u)):=az.below h.bel ((az.refl w1 w.heap.size).set_ 0 _) h.bel.size (oY _);have hs:=h.sz;refine⟨b,h.ka.set0 _,h.kr.other _ (by omega),by simpa [ou] using hs,?_⟩;have ht:=h.tab
 exact⟨by simpa [ou] using ht.1,fun j hj=>by
  rw[World.cell?_of_block (Below.heap_setCell w1 _ _ _ ?_)]
  . exact ht.2 j hj
  . intro he
    have h0:=ht.2 0 (by decide);have k:=h.ka;unfold cA at k
    simp at he
    rw[← he]at k
    simp[World.cell?,k]at h0⟩
theorem qS (neg:Bool)(A:OA)(n c:Nat)(x:Nat->Nat)(e:Int)(w:World)(ha:Sl w A n c x)(hn:n<=400000)(hT:bx w):
 Calls tz 124 #[aP neg A n c e] w (fI w (ep (aj neg n x e) neg n (vs ai x n) e)):=by
 have S:=F2.start w neg A n c e hT;go_enter Tryz.func124,Tryz.ntmps124;go_wp2_with fail;generalize(w.alloc (.cells #[.bool neg,.slice A n c,.int .i64 e] 24)).alloc (.cells #[.bool false,.slice none 0 0,.int .i64 0] 24)=w1 at *;refine(jE neg A n c x e w1 (ha.below S.bel) hn).mono ?_;rintro e' w2 ⟨rfl,b⟩;have F:=S.adv b;clear S b;obtain⟨ca0,ca1,ca2⟩:=F.ka.cell;obtain⟨cr0,cr1,cr2⟩:=F.kr.cell;obtain⟨fr0,fr1,fr2⟩:=F.kr.frozen
 by_cases hp:aj neg n x e=true
 . have PF:=aS hp
   have hcn:=lY PF.cn;clear PF;rw[hp];go_wp2_with fail;refine(kj neg A n c e w2 (by omega)).mono ?_;rintro e' w3 ⟨rfl,b⟩;have G:=F.adv b;clear F b ca0 ca1 ca2 cr0 cr1 cr2 fr0 fr1 fr2;obtain⟨ca0,ca1,ca2⟩:=G.ka.cell;obtain⟨cr0,cr1,cr2⟩:=G.kr.cell;obtain⟨fr0,fr1,fr2⟩:=G.kr.frozen
   by_cases hn0:n=0
   . rw[show decide (n=0)=true by simp[hn0]]
     have hd:=lY (show ep (aj neg n x e) neg n (vs ai x n) e=DR.zero by rw[hp];simp[ep,hn0]);go_wp2_with fail;rw[hd.out];refine bodyPost_ret (v:=.tuple #[.agg #[.bool false,.slice none 0 0,.int .i64 0],.bool true]) (by simp[results,oM,go_sem,cr0,cr1,cr2]) rfl ⟨_,rfl,aq _,ak G.bel (by omega) G.bel.size _ _ _⟩
   . rw[show decide (n=0)=false by simp[hn0]]
     have hd:=lY (show ep (aj neg n x e) neg n (vs ai x n) e=⟨true,!neg,vs ai x n,e⟩ by rw[hp];simp[ep,hn0]);have sA:=ha.below G.bel;have nA:am w3 (.slice A n c) (vs ai x n):=⟨A,n,c,x,rfl,sA,hcn.out,rfl⟩;go_wp2_with fail;rw[hd.out]
     refine bodyPost_ret (v:=.tuple #[.agg #[.bool (!neg),.slice A n c,.int .i64 e],.bool true]) (by simp[results,oM,go_sem,cr0,cr1,cr2]) rfl
      ⟨_,rfl,am.put3 nA G.kr (aD _) (av _ _ _) (aI _) _ _ _,ak G.bel (by omega) G.bel.size _ _ _⟩
 . have hp':aj neg n x e=false:=by simpa using hp
   rw[hp'];have hd:=lY (show ep (aj neg n x e) neg n (vs ai x n) e=DR.no by rw[hp'];simp[ep]);go_wp2_with fail;rw[hd.out];refine bodyPost_ret (v:=.tuple #[.agg #[.bool false,.slice none 0 0,.int .i64 0],.bool false]) (by simp[results,oM,go_sem,cr0,cr1,cr2]) rfl ⟨_,rfl,aq _,ak F.bel (by omega) F.bel.size _ _ _⟩
theorem nE (neg:Bool)(A:OA)(n c:Nat)(x:Nat->Nat)(e:Int)(w:World)(ha:Sl w A n c x)(hn:n<=400000)(hT:bx w):
 Calls tz 82 #[aP neg A n c e] w (fI w (ep (aj neg n x e) neg n (vs ai x n) e)):=by
 have S:=F2.start w neg A n c e hT;go_enter Tryz.func82,Tryz.ntmps82;go_wp2_with fail;generalize(w.alloc (.cells #[.bool neg,.slice A n c,.int .i64 e] 24)).alloc (.cells #[.bool false,.slice none 0 0,.int .i64 0] 24)=w1 at *;refine(dr neg A n c x e w1 (ha.below S.bel) hn).mono ?_;rintro e' w2 ⟨rfl,b⟩;have F:=S.adv b;clear S b;obtain⟨ca0,ca1,ca2⟩:=F.ka.cell;obtain⟨fa0,fa1,fa2⟩:=F.ka.frozen;obtain⟨cr0,cr1,cr2⟩:=F.kr.cell;obtain⟨fr0,fr1,fr2⟩:=F.kr.frozen
 by_cases hp:aj neg n x e=true
 . have PF:=aS hp
   have hz:=lY PF.zero;clear PF;rw[hp]
   by_cases hn0:n=0
   . subst hn0
     obtain⟨rfl,rfl⟩:=hz.out rfl;have hd:=lY (show ep (aj false 0 x 0) false 0 (vs ai x 0) 0=⟨true,false,vs ai x 0,0⟩ by rw[hp];rfl);have TR:=lY (eO A 0 c x w2 (ha.below F.bel) (by omega));go_wp2_with fail;refine TR.out.mono ?_;rintro e' w3 ⟨v3,rfl,n3,b⟩;have G:=F.adv b;clear F b TR;obtain⟨A3,p3,c3,f3,rfl,m3⟩:=n3;have n3:am w3 (.slice A3 p3 c3) (vs ai x 0):=⟨A3,p3,c3,f3,rfl,m3⟩;have hsz:=G.sz;have ka3:=G.ka.set1 (.slice A3 p3 c3);have kr3:=G.kr.other (g:=w.heap.size) (i:=1) (.slice A3 p3 c3) (by omega);have n4:=n3.set1 (i:=1) G.ka (aD _) (av _ _ _) (aI _) (.slice A3 p3 c3);have bel3:Below w.heap.size w (w3.setCell ⟨w.heap.size,1,none⟩ (.slice A3 p3 c3)):=az.below G.bel ((az.refl w3 w.heap.size).set_ 1 _) G.bel.size (oY _);have hs3:w.heap.size<=(w3.setCell ⟨w.heap.size,1,none⟩ (.slice A3 p3 c3)).heap.size:=bel3.size;obtain⟨ga0,ga1,ga2⟩:=G.ka.cell;obtain⟨ha0,ha1,ha2⟩:=G.ka.frozen;obtain⟨xa0,xa1,xa2⟩:=ka3.cell;obtain⟨xr0,xr1,xr2⟩:=kr3.cell;obtain⟨yr0,yr1,yr2⟩:=kr3.frozen;go_wp2_with fail;rw[hd.out]
     refine bodyPost_ret (v:=.tuple #[.agg #[.bool false,.slice A3 p3 c3,.int .i64 0],.bool true]) (by simp[results,qK,go_sem,xr0,xr1,xr2]) rfl
      ⟨_,rfl,am.put3 n4 kr3 (aD _) (av _ _ _) (aI _) _ _ _,ak bel3 (by omega) hs3 _ _ _⟩
   . have hn1:(0:Int) < (n:Int):=by omega
     have hd:=lY (show ep (aj neg n x e) neg n (vs ai x n) e=⟨true,!neg,vs ai x n,e⟩ by rw[hp];simp[ep,hn0]);have F':=F.set0 (!neg);have TR:=lY (eO A n c x _ (ha.below F'.bel) (by omega));go_wp2_with fail;clear F ca0 ca1 ca2 cr0 cr1 cr2 fa0 fa1 fa2 fr0 fr1 fr2;have F:=F';clear F';generalize w2.setCell ⟨w.heap.size,0,none⟩ (.bool (!neg))=w2 at *;refine TR.out.mono ?_;rintro e' w3 ⟨v3,rfl,n3,b⟩;have G:=F.adv b;clear F b TR;obtain⟨A3,p3,c3,f3,rfl,m3⟩:=n3;have n3:am w3 (.slice A3 p3 c3) (vs ai x n):=⟨A3,p3,c3,f3,rfl,m3⟩;have hsz:=G.sz;have ka3:=G.ka.set1 (.slice A3 p3 c3);have kr3:=G.kr.other (g:=w.heap.size) (i:=1) (.slice A3 p3 c3) (by omega);have n4:=n3.set1 (i:=1) G.ka (aD _) (av _ _ _) (aI _) (.slice A3 p3 c3);have bel3:Below w.heap.size w (w3.setCell ⟨w.heap.size,1,none⟩ (.slice A3 p3 c3)):=az.below G.bel ((az.refl w3 w.heap.size).set_ 1 _) G.bel.size (oY _);have hs3:w.heap.size<=(w3.setCell ⟨w.heap.size,1,none⟩ (.slice A3 p3 c3)).heap.size:=bel3.size;obtain⟨ga0,ga1,ga2⟩:=G.ka.cell;obtain⟨ha0,ha1,ha2⟩:=G.ka.frozen;obtain⟨xa0,xa1,xa2⟩:=ka3.cell;obtain⟨xr0,xr1,xr2⟩:=kr3.cell;obtain⟨yr0,yr1,yr2⟩:=kr3.frozen;go_wp2_with fail;rw[hd.out]
     refine bodyPost_ret (v:=.tuple #[.agg #[.bool (!neg),.slice A3 p3 c3,.int .i64 e],.bool true]) (by simp[results,qK,go_sem,xr0,xr1,xr2]) rfl
      ⟨_,rfl,am.put3 n4 kr3 (aD _) (av _ _ _) (aI _) _ _ _,ak bel3 (by omega) hs3 _ _ _⟩
 . have hp':aj neg n x e=false:=by simpa using hp
   rw[hp'];have hd:=lY (show ep (aj neg n x e) neg n (vs ai x n) e=DR.no by rw[hp'];simp[ep]);go_wp2_with fail;rw[hd.out];refine bodyPost_ret (v:=.tuple #[.agg #[.bool false,.slice none 0 0,.int .i64 0],.bool false]) (by simp[results,qK,go_sem,cr0,cr1,cr2]) rfl ⟨_,rfl,aq _,ak F.bel (by omega) F.bel.size _ _ _⟩
end Go.Proofs.YtmbmohibpkepdaaGreatDoor
