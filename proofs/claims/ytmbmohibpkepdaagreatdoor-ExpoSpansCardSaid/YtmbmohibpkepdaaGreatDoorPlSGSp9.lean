import Derived.Test.YtmbmohibpkepdaaGreatDoorPlSGDy13
import Derived.Test.YtmbmohibpkepdaaGreatDoorPlSGSp4
set_option maxRecDepth 8000
set_option maxHeartbeats 4000000
open Go.Lib renaming hid->lY
open Go.Proofs.Tryz renaming prog->mF, results81->ou, ntmps81->oY, func81->qK, results54->tz, results39->yb, results59->Bl
open Go.Value renaming slice->oM, bool->Bx, agg->DE, int->DF
namespace Go.Proofs.YtmbmohibpkepdaaGreatDoor
open Go.RowKit
variable {A A' B B':OA} {V c c' d d' m m' n n':Nat} {hi hi' lo lo' r s:DR}
theorem xW (neg up:Bool)(V j p:Nat)(e:Int):cj neg (V*2^j) (e-(j:Int)) false p up=cj neg V e false p up:=by
 rcases Nat.eq_zero_or_pos V with h0 | h0
 . subst h0;rw[Nat.zero_mul,gM,gM]
 . rcases Nat.lt_or_ge (nb V) p with h | h
   . have h1:=ch h0 j
     obtain⟨D,hD⟩:=du (nb V+j-p)
     have hDj:D<=j:=by omega
     have h2:V*2^j=V*2^(j-D)*2^D:=by rw[Nat.mul_assoc,← Nat.pow_add];congr 2;omega
     have h3:V*2^j/2^D=V*2^(j-D):=by rw[h2,Nat.mul_div_cancel _ (Nat.two_pow_pos D)]
     unfold cj;rw[h1,← hD,h3,← h2,show nb V-p=0 by omega];simp only[Nat.pow_zero,Nat.div_one,Nat.mul_one,ne_eq,not_true_eq_false,decide_false,Bool.or_self,Bool.false_and,Bool.false_eq_true,if_false,Nat.add_zero];have h4:=BM neg V (j-D) e;rw[show e-(j:Int)+((D:Nat):Int)=e-((j-D:Nat):Int) by omega,h4]
     simp
   . have:=tP (V:=V) (t:=0) (j:=j) (p:=p) neg up e false false h h0 (Nat.two_pow_pos j) (by simp)
     rw[Nat.add_zero]at this;exact this
theorem oF (neg up:Bool)(V p:Nat)(e:Int):cj (fZ neg V e).neg (fZ neg V e).m (fZ neg V e).e false p up=cj neg V e false p up:=by
 unfold fZ
 by_cases h0:V=0
 . subst h0
   rw[if_pos rfl,gM];exact gM _ _ _ _
 . rw[if_neg h0]
   have h1:=(eP (show 0 < V by omega)).1;have h2:=xW neg up (od V) (v2 V) p (e+(v2 V:Int));rw[← h1,show e+(v2 V:Int)-(v2 V:Int)=e by omega]at h2;exact h2.symm
def bS (r s:DR):DR :=
 if r.m=0 then s else if s.m=0 then r else
  if r.neg=s.neg then⟨true,r.neg,cF r.m r.e s.e+cF s.m s.e r.e,min r.e s.e⟩ else
   if cF s.m s.e r.e<=cF r.m r.e s.e then⟨true,r.neg,cF r.m r.e s.e-cF s.m s.e r.e,min r.e s.e⟩ else⟨true,s.neg,cF s.m s.e r.e-cF r.m r.e s.e,min r.e s.e⟩
theorem AU (h1:bl r)(p:Nat)(up:Bool):
 cj (gU r.neg s.neg r.m s.m r.e s.e).neg (gU r.neg s.neg r.m s.m r.e s.e).m (gU r.neg s.neg r.m s.m r.e s.e).e false p up=cj (bS r s).neg (bS r s).m (bS r s).e false p up:=by
 unfold gU bS dS dV eH
 by_cases h0:r.m=0
 . have hz:=(h1.zero h0).2
   simp only[h0,if_true,Nat.lt_irrefl,false_and,if_false,decide_true,Bool.true_and,Nat.zero_add,hz,Bool.false_or];exact oF _ _ _ _ _
 . by_cases h0':s.m=0
   . simp only[h0,h0',if_true,if_false,Nat.lt_irrefl,false_and,and_false,decide_false,Bool.false_and,Bool.or_false,Nat.add_zero]
     exact oF _ _ _ _ _
   . have hX:0 < cF r.m r.e s.e:=fN (by omega)
     have hY:0 < cF s.m s.e r.e:=fN (by omega);simp only[h0,h0',if_false,hX,hY,true_and]
     by_cases hn:r.neg=s.neg
     . rw[if_neg (by simpa using hn),if_pos hn]
       have:decide (cF r.m r.e s.e=0)=false:=by simp;omega
       rw[this,Bool.false_and,Bool.or_false];exact oF _ _ _ _ _
     . rw[if_pos hn,if_neg hn]
       by_cases hle:cF s.m s.e r.e<=cF r.m r.e s.e
       . rw[if_pos hle,if_pos hle];exact oF _ _ _ _ _
       . rw[if_neg hle,if_neg hle];exact oF _ _ _ _ _
theorem kW {e o:Int}(h:nb V<=16384)(h1:-262144<=e)(h2:e<=262144)(h3:-262144<=o)(h4:o<=262144):nb (cF V e o)<=540672:=by
 unfold cF
 rcases Nat.eq_zero_or_pos V with h0 | h0
 . subst h0;rw[Nat.zero_mul,aX];omega
 . rw[ch h0];omega
structure Fl (r:DR):Prop where
 bits:nb r.m<=600000
 e1:-300000<=r.e
 e2:r.e<=300000
theorem pq (h1:bl r)(h2:bl s):Fl (bS r s):=by
 have b1:=kW h1.bits h1.e1 h1.e2 h2.e1 h2.e2;have b2:=kW h2.bits h2.e1 h2.e2 h1.e1 h1.e2
 have:=h1.bits
 have:=h2.bits
 have:=h1.e1
 have:=h1.e2
 have:=h2.e1
 have:=h2.e2
 unfold bS
 by_cases h0:r.m=0
 . rw[if_pos h0];exact⟨by omega,by omega,by omega⟩
 . rw[if_neg h0]
   by_cases h0':s.m=0
   . rw[if_pos h0'];exact⟨by omega,by omega,by omega⟩
   . rw[if_neg h0']
     by_cases hn:r.neg=s.neg
     . rw[if_pos hn];exact⟨by have:=lW b1 b2;simp only;omega,by simp only;omega,by simp only;omega⟩
     . rw[if_neg hn]
       by_cases hle:cF s.m s.e r.e<=cF r.m r.e s.e
       . rw[if_pos hle];exact⟨by have:=bQ (Nat.sub_le (cF r.m r.e s.e) (cF s.m s.e r.e));simp only;omega,by simp only;omega,by simp only;omega⟩
       . rw[if_neg hle];exact⟨by have:=bQ (Nat.sub_le (cF s.m s.e r.e) (cF r.m r.e s.e));simp only;omega,by simp only;omega,by simp only;omega⟩
def KL (w:World):List (TypeId×Nat×Array Value)->Prop
 | []=>True
 | (T,a,cs) :: r=>KC T w a cs/\KL w r
theorem KL.adv {w w':World}(b:Below w.heap.size w w'):∀ {ks:List (TypeId×Nat×Array Value)},KL w ks->KL w' ks
 | [],_=>trivial
 | (_,_,_) :: _,h=>⟨h.1.adv b,KL.adv b h.2⟩
structure Pu (w wi:World)(ks:List (TypeId×Nat×Array Value))(ns:List (Value×Nat)):Prop where
 bel:Below w.heap.size w wi
 ks:KL wi ks
 ns:NS wi ns
section
variable {w wi wj:World} {ks:List (TypeId×Nat×Array Value)} {ns:List (Value×Nat)}
theorem Pu.below (h:Pu w wi ks ns)(b:Below wi.heap.size wi wj):Pu w wj ks ns:=⟨aB h.bel b,h.ks.adv b,h.ns.adv b⟩
theorem Pu.drew (h:Pu w wi ks ns):Pu w wi.drew ks ns:=h.below (Below.refl _ wi).drew
theorem Pu.num (h:Pu w wi ks ns){v:Value}(n:am wi v V):Pu w wi ks ((v,V) :: ns):=⟨h.bel,h.ks,n,h.ns⟩
theorem Pu.alloc (h:Pu w wi ks ns)(T:TypeId)(cs:Array Value):Pu w (wi.alloc (.cells cs T)) ((T,wi.heap.size,cs) :: ks) ns :=
 ⟨aB h.bel (ag wi _),⟨KC.made T wi cs,h.ks.adv (ag wi _)⟩,h.ns.adv (ag wi _)⟩
end
theorem Pu.give {w wi:World}{ks:List (TypeId×Nat×Array Value)}{ns:List (Value×Nat)}(h:Pu w wi ks ns){T:TypeId}{gr:Nat}(k:KC T wi gr zd)(hg:w.heap.size<=gr){v:Value}(n:am wi v V)(x y z:Value):
 am (put3 wi gr x y z) v V/\Below w.heap.size w (put3 wi gr x y z):=⟨eK n k x y z,ct h.bel (aZ _ _ _ _ _) hg⟩
theorem rT (w:World)(ha:am w (.slice A n c) r.m)(hb:am w (.slice B m d) s.m)(hr:bl r)(hs:bl s):
 Calls mF 81 #[aP r.neg A n c r.e,aP s.neg B m d s.e] w (fg w (bS r s)):=by
 have hbl:=Below.refl w.heap.size w
 have P:Pu w (((w.alloc (bJ (.bool r.neg) (.slice A n c) (.int .i64 r.e))).alloc (bJ (.bool s.neg) (.slice B m d) (.int .i64 s.e))).alloc (.cells zd 78)) [(78,w.heap.size+1+1,zd),(24,w.heap.size+1,s3 s B m d),(24,w.heap.size,s3 r A n c)] []:=by
  have h:=((Pu.alloc (⟨hbl,trivial,trivial⟩:Pu w w [] []) 24 #[.bool r.neg,.slice A n c,.int .i64 r.e]).alloc 24 #[.bool s.neg,.slice B m d,.int .i64 s.e]).alloc 78 zd;rw[show((w.alloc (.cells #[.bool r.neg,.slice A n c,.int .i64 r.e] 24)).alloc (.cells #[.bool s.neg,.slice B m d,.int .i64 s.e] 24)).heap.size=w.heap.size+1+1 by simp,show(w.alloc (.cells #[.bool r.neg,.slice A n c,.int .i64 r.e] 24)).heap.size=w.heap.size+1 by simp]at h;exact h
 have hA:=ha.empty;have hB:=hb.empty;clear hbl
 by_cases h0:n=0
 . subst h0
   have HT:Hid (bS r s=s):=lY (by unfold bS;rw[if_pos (hA.1 rfl)]);obtain⟨ka0,ka1,ka2⟩:=P.ks.2.2.1.c3;have kal:=P.ks.2.2.1.2;obtain⟨kb0,kb1,kb2⟩:=P.ks.2.1.c3;have kbl:=P.ks.2.1.2;go_enter qK,oY;go_upto_region 2 with fail;generalize((w.alloc (bJ (.bool r.neg) (.slice A 0 c) (.int .i64 r.e))).alloc (bJ (.bool s.neg) (.slice B m d) (.int .i64 s.e))).alloc (.cells zd 78)=w1 at *;have kR:=P.ks.1;obtain⟨q0,q1,q2⟩:=kR.c3;obtain⟨qf0,qf1,qf2⟩:=kR.f3;go_wp2_with fail;rw[HT.out];obtain⟨hn9,hb9⟩:=P.give kR (by omega) (hb.below P.bel) (.bool s.neg) (.slice B m d) (.int .i64 s.e);exact bodyPost_ret (v:=.agg #[.bool s.neg,.slice B m d,.int .i64 s.e]) (by simp[results,ou,go_sem,q0,q1,q2]) rfl ⟨B,m,d,rfl,hn9,hb9⟩
 have h0b:((n:Int) == 0)=false:=by simp;omega
 have h0c:¬ r.m=0:=fun h=>h0 (hA.2 h)
 by_cases h1:m=0
 . subst h1
   have HT:Hid (bS r s=r):=lY (by unfold bS;rw[if_neg h0c,if_pos (hB.1 rfl)]);clear h0c;obtain⟨ka0,ka1,ka2⟩:=P.ks.2.2.1.c3;have kal:=P.ks.2.2.1.2;obtain⟨kb0,kb1,kb2⟩:=P.ks.2.1.c3;have kbl:=P.ks.2.1.2;go_enter qK,oY;go_upto_region 4 with fail;generalize((w.alloc (bJ (.bool r.neg) (.slice A n c) (.int .i64 r.e))).alloc (bJ (.bool s.neg) (.slice B 0 d) (.int .i64 s.e))).alloc (.cells zd 78)=w1 at *;have kR:=P.ks.1;obtain⟨q0,q1,q2⟩:=kR.c3;obtain⟨qf0,qf1,qf2⟩:=kR.f3;go_wp2_with fail;rw[HT.out];obtain⟨hn9,hb9⟩:=P.give kR (by omega) (ha.below P.bel) (.bool r.neg) (.slice A n c) (.int .i64 r.e);exact bodyPost_ret (v:=.agg #[.bool r.neg,.slice A n c,.int .i64 r.e]) (by simp[results,ou,go_sem,q0,q1,q2]) rfl ⟨A,n,c,rfl,hn9,hb9⟩
 have h1b:((m:Int) == 0)=false:=by simp;omega
 have h1c:¬ s.m=0:=fun h=>h1 (hB.2 h)
 have re1:=hr.e1;have re2:=hr.e2;have se1:=hs.e1;have se2:=hs.e2;have rb:=hr.bits;have sb:=hs.bits;obtain⟨E,hE⟩:∃ E,min r.e s.e=E:=⟨_,rfl⟩;obtain⟨j,hj⟩:∃ j:Nat,r.e-E=(j:Int):=⟨(r.e-E).toNat,by omega⟩;obtain⟨k,hk⟩:∃ k:Nat,s.e-E=(k:Int):=⟨(s.e-E).toNat,by omega⟩
 have hX:r.m*2^j=cF r.m r.e s.e:=by unfold cF;rw[hE,hj,Int.toNat_natCast]
 have hY:s.m*2^k=cF s.m s.e r.e:=by unfold cF;rw[show min s.e r.e=E by omega,hk,Int.toNat_natCast]
 have bX:=kW hr.bits re1 re2 se1 se2;have bY:=kW hs.bits se1 se2 re1 re2;have HS:Hid (bS r s=if r.neg=s.neg then⟨true,r.neg,cF r.m r.e s.e+cF s.m s.e r.e,E⟩ else if cF s.m s.e r.e<=cF r.m r.e s.e then⟨true,r.neg,cF r.m r.e s.e-cF s.m s.e r.e,E⟩ else⟨true,s.neg,cF s.m s.e r.e-cF r.m r.e s.e,E⟩):=lY (by unfold bS;rw[if_neg h0c,if_neg h1c,hE])
 have hw1:IntKind.i64.wrap (r.e-E)=(j:Int):=by rw[aE (by omega) (by omega),hj]
 have hw2:IntKind.i64.wrap (s.e-E)=(k:Int):=by rw[aE (by omega) (by omega),hk]
 have hj2:j<=1048576:=by omega
 have hk2:k<=1048576:=by omega
 have H1:Hid (∀ w',Below w.heap.size w w'->Calls mF 123 #[.slice A n c,.int .i64 (j:Int)] w' (NP w' (cF r.m r.e s.e))):=lY (fun w' b=>by rw[← hX];exact oV w' (ha.below b) (by omega) hj2);have H2:Hid (∀ w',Below w.heap.size w w'->Calls mF 123 #[.slice B m d,.int .i64 (k:Int)] w' (NP w' (cF s.m s.e r.e))):=lY (fun w' b=>by rw[← hY];exact oV w' (hb.below b) (by omega) hk2);clear h0 h1 h0c h1c hA hB hj hk hX hY;generalize cF r.m r.e s.e=X at *;generalize cF s.m s.e r.e=Y at *;obtain⟨ka0,ka1,ka2⟩:=P.ks.2.2.1.c3;have kal:=P.ks.2.2.1.2;obtain⟨kb0,kb1,kb2⟩:=P.ks.2.1.c3;have kbl:=P.ks.2.1.2;go_enter qK,oY;go_upto_region 6 with fail;generalize((w.alloc (bJ (.bool r.neg) (.slice A n c) (.int .i64 r.e))).alloc (bJ (.bool s.neg) (.slice B m d) (.int .i64 s.e))).alloc (.cells zd 78)=w1 at *;clear ka0 ka1 ka2 kal kb0 kb1 kb2 kbl;have HC:Hid (∀ w' ns,Pu w w' [(78,w.heap.size+1+1,zd),(24,w.heap.size+1,s3 s B m d),(24,w.heap.size,s3 r A n c)] ns->w'.cell? ⟨w.heap.size,1,none⟩=some (.slice A n c)/\w'.cell? ⟨w.heap.size,2,none⟩=some (.int .i64 r.e)/\w'.cell? ⟨w.heap.size+1,1,none⟩=some (.slice B m d)/\w'.cell? ⟨w.heap.size+1,2,none⟩=some (.int .i64 s.e)):=lY (fun w' ns h=>⟨h.ks.2.2.1.at_ 1 _ rfl,h.ks.2.2.1.at_ 2 _ rfl,h.ks.2.1.at_ 1 _ rfl,h.ks.2.1.at_ 2 _ rfl⟩);have PC:=P.drew;clear P;have XS:=HC.out _ _ PC
 go_region_held3 (fun w'=>w'.cell? ⟨w.heap.size,1,none⟩=some (.slice A n c)/\w'.cell? ⟨w.heap.size,2,none⟩=some (.int .i64 r.e)/\w'.cell? ⟨w.heap.size+1,1,none⟩=some (.slice B m d)/\w'.cell? ⟨w.heap.size+1,2,none⟩=some (.int .i64 s.e))
  (first | with_reducible exact HC.out _ _ PC | with_reducible exact XS)
  (first
   | (go_at_call_of 123 (oM A n c);refine(H1.out _ PC.bel).mono ?_;rintro e' v1 ⟨A4,p4,c4,rfl,n4,b4⟩;have PQ:=(PC.below b4).num n4;clear PC;have PC:=PQ;clear PQ)
   | (go_at_call_of 123 (oM B m d);refine(H2.out _ PC.bel).mono ?_;rintro e' v2 ⟨A5,p5,c5,rfl,n5,b5⟩;have PQ:=(PC.below b5).num n5;clear PC;have PC:=PQ;clear PQ))
 have P:=PC;clear PC XS HC H1 H2 n4 b4 n5 b5
 by_cases hn:r.neg=s.neg
 . skip
   have hnb:(r.neg == s.neg)=true:=by simpa using hn
   have HT:=lY (HS.out.trans (if_pos hn));clear HS hn;obtain⟨ka0,ka1,ka2⟩:=P.ks.2.2.1.c3;have kal:=P.ks.2.2.1.2;obtain⟨kb0,kb1,kb2⟩:=P.ks.2.1.c3;have kbl:=P.ks.2.1.2;go_upto_region 8 with fail;clear ka0 ka1 ka2 kal kb0 kb1 kb2 kbl;have HC:Hid (∀ w' ns,Pu w w' [(78,w.heap.size+1+1,zd),(24,w.heap.size+1,s3 s B m d),(24,w.heap.size,s3 r A n c)] ns->w'.cell? ⟨w.heap.size,0,none⟩=some (.bool r.neg)):=lY (fun w' ns h=>h.ks.2.2.1.at_ 0 _ rfl);have HK:Hid (∀ w' w9 ns,Pu w w' [(78,w.heap.size+1+1,zd),(24,w.heap.size+1,s3 s B m d),(24,w.heap.size,s3 r A n c)] ns->az w' w9 (w.heap.size+1+1)->w9.cell? ⟨w.heap.size,0,none⟩=some (.bool r.neg)):=lY (fun w' w9 ns h o=>(h.ks.2.2.1.only o (by omega)).at_ 0 _ rfl);have PC:=P.drew;clear P;have XS:=HC.out _ _ PC
   go_region_held3 (fun w'=>w'.cell? ⟨w.heap.size,0,none⟩=some (.bool r.neg))
    (first | with_reducible exact HC.out _ _ P9 | with_reducible exact HK.out _ _ _ P9 (aZ _ _ _ _ _) | with_reducible exact XS)
    (first | (go_at_call 148;refine(Co _ PC.ns.2.1 PC.ns.1 (by omega) (by omega)).mono ?_;rintro e' v3 ⟨A6,p6,c6,rfl,n6,b6⟩;have P9:=(PC.below b6).num n6;obtain⟨q0,q1,q2⟩:=P9.ks.1.c3;obtain⟨qf0,qf1,qf2⟩:=P9.ks.1.f3))
   go_wp2_with fail;rw[HT.out];obtain⟨hn9,hb9⟩:=P9.give P9.ks.1 (by omega) P9.ns.1 (.bool r.neg) (.slice A6 p6 c6) (.int .i64 E);exact bodyPost_ret (v:=.agg #[.bool r.neg,.slice A6 p6 c6,.int .i64 E]) (by simp[results,ou,go_sem,q0,q1,q2]) rfl ⟨A6,p6,c6,rfl,hn9,hb9⟩
 . skip
   have hnb:(r.neg == s.neg)=false:=by simpa using hn
   have HS2:=lY (HS.out.trans (if_neg hn));clear HS hn
   by_cases hle:Y<=X
   . skip
     have HT:=lY (HS2.out.trans (if_pos hle));clear HS2;obtain⟨ka0,ka1,ka2⟩:=P.ks.2.2.1.c3;have kal:=P.ks.2.2.1.2;obtain⟨kb0,kb1,kb2⟩:=P.ks.2.1.c3;have kbl:=P.ks.2.1.2;go_wp2_with fail;refine(Ey _ P.ns.2.1 P.ns.1 (by omega) (by omega) hle).mono ?_;rintro e' v3 ⟨A6,p6,c6,rfl,n6,b6⟩;replace P:=(P.below b6).num n6;clear hle b6 n6 ka0 ka1 ka2 kal kb0 kb1 kb2 kbl;obtain⟨ka0,ka1,ka2⟩:=P.ks.2.2.1.c3;have kal:=P.ks.2.2.1.2;obtain⟨kb0,kb1,kb2⟩:=P.ks.2.1.c3;have kbl:=P.ks.2.1.2;have kR:=P.ks.1;obtain⟨q0,q1,q2⟩:=kR.c3;obtain⟨qf0,qf1,qf2⟩:=kR.f3;go_wp2_with fail;rw[HT.out];obtain⟨hn9,hb9⟩:=P.give kR (by omega) P.ns.1 (.bool r.neg) (.slice A6 p6 c6) (.int .i64 E);exact bodyPost_ret (v:=.agg #[.bool r.neg,.slice A6 p6 c6,.int .i64 E]) (by simp[results,ou,go_sem,q0,q1,q2]) rfl ⟨A6,p6,c6,rfl,hn9,hb9⟩
   . skip
     have HT:=lY (HS2.out.trans (if_neg hle))
     have hlt:X < Y:=by omega
     clear HS2;obtain⟨ka0,ka1,ka2⟩:=P.ks.2.2.1.c3;have kal:=P.ks.2.2.1.2;obtain⟨kb0,kb1,kb2⟩:=P.ks.2.1.c3;have kbl:=P.ks.2.1.2;go_wp2_with fail;refine(Ew _ P.ns.2.1 P.ns.1 (by omega) (by omega) hlt).mono ?_;rintro e' v3 ⟨rfl,b6⟩;replace P:=P.below b6;clear b6 hle ka0 ka1 ka2 kal kb0 kb1 kb2 kbl;obtain⟨ka0,ka1,ka2⟩:=P.ks.2.2.1.c3;have kal:=P.ks.2.2.1.2;obtain⟨kb0,kb1,kb2⟩:=P.ks.2.1.c3;have kbl:=P.ks.2.1.2;go_wp2_with fail;refine(Ey _ P.ns.1 P.ns.2.1 (by omega) (by omega) (by omega)).mono ?_;rintro e' v4 ⟨A6,p6,c6,rfl,n6,b6⟩;replace P:=(P.below b6).num n6;clear b6 n6 ka0 ka1 ka2 kal kb0 kb1 kb2 kbl;obtain⟨ka0,ka1,ka2⟩:=P.ks.2.2.1.c3;have kal:=P.ks.2.2.1.2;obtain⟨kb0,kb1,kb2⟩:=P.ks.2.1.c3;have kbl:=P.ks.2.1.2;have kR:=P.ks.1;obtain⟨q0,q1,q2⟩:=kR.c3;obtain⟨qf0,qf1,qf2⟩:=kR.f3;go_wp2_with fail;rw[HT.out];obtain⟨hn9,hb9⟩:=P.give kR (by omega) P.ns.1 (.bool s.neg) (.slice A6 p6 c6) (.int .i64 E);exact bodyPost_ret (v:=.agg #[.bool s.neg,.slice A6 p6 c6,.int .i64 E]) (by simp[results,ou,go_sem,q0,q1,q2]) rfl ⟨A6,p6,c6,rfl,hn9,hb9⟩
def j6 (r s:DR)(p:Nat)(up:Bool):DR:=cj (bS r s).neg (bS r s).m (bS r s).e false p up
theorem nk (neg:Bool)(V:Nat)(e:Int):nb (fZ neg V e).m<=nb V/\(fZ neg V e).e<=max e 0+nb V/\min e 0<=(fZ neg V e).e:=by
 unfold fZ
 by_cases h:V=0
 . rw[if_pos h];simp only[DR.zero,aX];omega
 . rw[if_neg h]
   have h1:=bQ (pN V);have h2:=kE (show 0 < V by omega)
   simp only
   omega
theorem yc (h1:bl r)(h2:bl s):nb (gU r.neg s.neg r.m s.m r.e s.e).m<=600000/\(gU r.neg s.neg r.m s.m r.e s.e).e<=1000000/\-300000<=(gU r.neg s.neg r.m s.m r.e s.e).e/\nb (dS r.m s.m r.e s.e)<=540672/\nb (dV r.m s.m r.e s.e)<=540672:=by
 obtain⟨b1,b2⟩:=py r.m s.m r.e s.e (K:=16384) (D:=524288) h1.bits h2.bits (by have:=h1.e2;have:=h2.e1;omega) (by have:=h2.e2;have:=h1.e1;omega)
 have hE:-262144<=eH r.m s.m r.e s.e/\eH r.m s.m r.e s.e<=262144:=by
  have:=h1.e1
  have:=h1.e2
  have:=h2.e1
  have:=h2.e2
  unfold eH
  split
  . omega
  . split <;> omega
 refine⟨?_,?_,?_,by omega,by omega⟩
 all_goals
  unfold gU;generalize dS r.m s.m r.e s.e=X at *;generalize dV r.m s.m r.e s.e=Y at *;generalize eH r.m s.m r.e s.e=E at *;have g1:=lW b1 b2;have g2:=bQ (Nat.sub_le X Y);have g3:=bQ (Nat.sub_le Y X)
  split
  . split
    . have:=nk r.neg (X-Y) E;omega
    . have:=nk s.neg (Y-X) E;omega
  . have:=nk (r.neg || (decide (X=0) && s.neg)) (X+Y) E;omega
theorem pE (p:Nat)(up:Bool)(w:World)(ha:am w (.slice A n c) r.m)(hb:am w (.slice B m d) s.m)(hr:bl r)(hs:bl s)(hp:p<=8192)(hT:bx w):
 Calls mF 104 #[aP r.neg A n c r.e,aP s.neg B m d s.e,.int .i64 (p:Int),.bool up] w (DP w (j6 r s p up)):=by
 have hbl:=Below.refl w.heap.size w
 have P:Pu w (((w.alloc (bJ (.bool r.neg) (.slice A n c) (.int .i64 r.e))).alloc (bJ (.bool s.neg) (.slice B m d) (.int .i64 s.e))).alloc (bJ (.bool false) (.slice none 0 0) (.int .i64 0))) [(24,w.heap.size+1+1,zd),(24,w.heap.size+1,s3 s B m d),(24,w.heap.size,s3 r A n c)] []:=by
  have h:=((Pu.alloc (⟨hbl,trivial,trivial⟩:Pu w w [] []) 24 #[.bool r.neg,.slice A n c,.int .i64 r.e]).alloc 24 #[.bool s.neg,.slice B m d,.int .i64 s.e]).alloc 24 zd;rw[show((w.alloc (.cells #[.bool r.neg,.slice A n c,.int .i64 r.e] 24)).alloc (.cells #[.bool s.neg,.slice B m d,.int .i64 s.e] 24)).heap.size=w.heap.size+1+1 by simp,show(w.alloc (.cells #[.bool r.neg,.slice A n c,.int .i64 r.e] 24)).heap.size=w.heap.size+1 by simp]at h;exact h
 obtain⟨q1,q2,q3,q4,q5⟩:=yc hr hs;have e1:=hr.e1;have e2:=hr.e2;have e3:=hs.e1;have e4:=hs.e2;have e5:=hr.bits;have e6:=hs.bits;have AD:=lY (ua r.neg s.neg A B n c m d r.m s.m r.e s.e _ (ha.below P.bel) (hb.below P.bel) (by omega) (by omega) (by omega) (by omega) (by omega) (by omega) (by omega) (by omega) (hT.below P.bel));have HT:Hid (j6 r s p up=cj (gU r.neg s.neg r.m s.m r.e s.e).neg (gU r.neg s.neg r.m s.m r.e s.e).m (gU r.neg s.neg r.m s.m r.e s.e).e false p up):=lY (AU hr p up).symm;have HTb:Hid (∀ w',Below w.heap.size w w'->bx w'):=lY (fun w' b=>hT.below b);generalize gU r.neg s.neg r.m s.m r.e s.e=q at *;clear hbl e1 e2 e3 e4 e5 e6 q4 q5;obtain⟨ka0,ka1,ka2⟩:=P.ks.2.2.1.c3;obtain⟨kb0,kb1,kb2⟩:=P.ks.2.1.c3;go_enter Tryz.func104,Tryz.ntmps104;go_wp2_with fail;refine AD.out.mono ?_;clear AD ka0 ka1 ka2 kb0 kb1 kb2;generalize((w.alloc (bJ (.bool r.neg) (.slice A n c) (.int .i64 r.e))).alloc (bJ (.bool s.neg) (.slice B m d) (.int .i64 s.e))).alloc (bJ (.bool false) (.slice none 0 0) (.int .i64 0))=w1 at *;rintro e' w2 ⟨A1,n1,c1,rfl,m1,b1⟩;have P2:=(P.below b1).num m1;clear P m1 b1;have hl:=P2.ks.1.2;go_wp2_with fail;have P3:=P2.alloc 24 #[.bool q.neg,.slice A1 n1 c1,.int .i64 q.e];generalize w2.alloc (.cells #[.bool q.neg,.slice A1 n1 c1,.int .i64 q.e] 24)=w3 at *;clear P2 hl;have HP:Hid (∃ P':Nat,p=P'):=lY ⟨p,rfl⟩;have CU:=lY (mw q.neg A1 n1 c1 q.m q.e false p up w3 P3.ns.1 (by omega) hp (HTb.out _ P3.bel) (by omega) (by omega));have hx:=P3.ks.2.1.2;refine CU.out.mono ?_;rintro e' w4 h4;obtain⟨A2,n2,c2,rfl,m2,b2⟩:=h4.dp;have P4:=(P3.below b2).num m2;clear P3 m2 b2 CU hx h4;generalize cj q.neg q.m q.e false p up=z at *;have kR:=P4.ks.2.1;obtain⟨s0,s1,s2⟩:=kR.c3;obtain⟨rf0,rf1,rf2⟩:=kR.f3;go_wp2_with fail;rw[HT.out];obtain⟨hn9,hb9⟩:=P4.give kR (by omega) P4.ns.1 (.bool z.neg) (.slice A2 n2 c2) (.int .i64 z.e);exact bodyPost_ret (v:=.tuple #[.agg #[.bool z.neg,.slice A2 n2 c2,.int .i64 z.e],.bool z.ok]) (by simp[results,Tryz.results104,go_sem,s0,s1,s2]) rfl ⟨A2,n2,c2,rfl,hn9,hb9⟩
section
variable {TW:TypeId}
def dC (p:Int)(bad:Bool)(lo hi lo' hi':DR):SRes:=il (dL p bad lo hi lo' hi') (j6 lo lo' p.toNat false) (j6 hi hi' p.toNat true)
theorem jB (g:Nat)(p:Int)(bad:Bool)(w:World)(hW:Wk 49 w g p bad)(ha:aC w A n c lo)(hb:aC w B m d hi)(ha':aC w A' n' c' lo')(hb':aC w B' m' d' hi')(hT:bx w):
 Calls mF 54 #[.pointer (some ⟨g,0,none⟩),aG lo.neg A n c lo.e hi.neg B m d hi.e,aG lo'.neg A' n' c' lo'.e hi'.neg B' m' d' hi'.e] w (ap 49 w g p (dC p bad lo hi lo' hi')):=by
 have S:=yB hW (.bool lo.neg) (.slice A n c) (.int .i64 lo.e) (.bool hi.neg) (.slice B m d) (.int .i64 hi.e) (.bool lo'.neg) (.slice A' n' c') (.int .i64 lo'.e) (.bool hi'.neg) (.slice B' m' d') (.int .i64 hi'.e);have TK:=nD g p bad _ S.W (ha.wk hW S.O) (hb.wk hW S.O) (ha'.wk hW S.O) (hb'.wk hW S.O);rw[show(((w.alloc (ce (.bool lo.neg) (.slice A n c) (.int .i64 lo.e) (.bool hi.neg) (.slice B m d) (.int .i64 hi.e))).alloc (ce (.bool lo'.neg) (.slice A' n' c') (.int .i64 lo'.e) (.bool hi'.neg) (.slice B' m' d') (.int .i64 hi'.e))).alloc z6).heap.size=w.heap.size+1+1+1 by simp]at TK;have TKH:=lY TK;clear TK;have k0:=S.ks.2.2.1.1;obtain⟨k0_0,k0_1,k0_2,k0_3,k0_4,k0_5⟩:=k0.c6;have k0l:=k0.2;clear k0;have k1:=S.ks.2.1.1;obtain⟨k1_0,k1_1,k1_2,k1_3,k1_4,k1_5⟩:=k1.c6;have k1l:=k1.2;clear k1;go_enter Tryz.func54,Tryz.ntmps54;go_wp2_with fail;refine TKH.out.mono ?_;clear TKH k0_0 k0_1 k0_2 k0_3 k0_4 k0_5 k0l k1_0 k1_1 k1_2 k1_3 k1_4 k1_5 k1l;generalize((w.alloc (ce (.bool lo.neg) (.slice A n c) (.int .i64 lo.e) (.bool hi.neg) (.slice B m d) (.int .i64 hi.e))).alloc (ce (.bool lo'.neg) (.slice A' n' c') (.int .i64 lo'.e) (.bool hi'.neg) (.slice B' m' d') (.int .i64 hi'.e))).alloc z6=w1 at *;rintro e' w2 ⟨rfl,hW2,o2⟩;replace S:=S.only o2 hW2;clear o2 hW2;obtain⟨bo,hbo⟩:∃ b:Bool,Hid (dL p bad lo hi lo' hi'=b):=⟨_,lY rfl⟩;rw[hbo.out]at S;rw[hbo.out];cases bo
 rotate_left
 . have HT:Hid (dC p bad lo hi lo' hi'=SRes.no):=lY (by unfold dC;rw[hbo.out];rfl)
   have kR:=S.ks.1.1;obtain⟨s0,s1,s2,s3q,s4,s5⟩:=kR.c6;obtain⟨rf0,rf1,rf2,rf3,rf4,rf5⟩:=kR.f6;go_wp2_with fail;rw[HT.out];obtain⟨q1,q2,q3,q4⟩:=S.give (lo:=DR.zero) (hi:=DR.zero) (aq _) (aq _) kR (by omega);exact bodyPost_ret (v:=aG false none 0 0 0 false none 0 0 0) (by simp[results,tz,go_sem,s0,s1,s2,s3q,s4,s5]) rfl ⟨none,0,0,none,0,0,rfl,q1,q2,q3,q4⟩
 . skip
   obtain⟨hbad,hp,hR,hR'⟩:=eB hbo.out;obtain⟨P,hP⟩:∃ P:Nat,p=(P:Int):=⟨p.toNat,by omega⟩
   have hPt:p.toNat=P:=by omega
   have HT:Hid (dC p bad lo hi lo' hi'=cG false (j6 lo lo' P false) (j6 hi hi' P true) ((j6 lo lo' P false).ok && (j6 hi hi' P true).ok)):=lY (by unfold dC;rw[hbo.out,hPt];rfl);have D1:Hid (∀ w',az w w' g->Calls mF 104 #[aP lo.neg A n c lo.e,aP lo'.neg A' n' c' lo'.e,.int .i64 p,.bool false] w' (DP w' (j6 lo lo' P false))):=lY (fun w' o=>by rw[hP];exact pE P false w' ((ha.wk hW o).num hR.l) ((ha'.wk hW o).num hR'.l) (ha.plain hR.l) (ha'.plain hR'.l) (by omega) (hT.wk hW o));have D2:Hid (∀ w',az w w' g->Calls mF 104 #[aP hi.neg B m d hi.e,aP hi'.neg B' m' d' hi'.e,.int .i64 p,.bool true] w' (DP w' (j6 hi hi' P true))):=lY (fun w' o=>by rw[hP];exact pE P true w' ((hb.wk hW o).num hR.h) ((hb'.wk hW o).num hR'.h) (hb.plain hR.h) (hb'.plain hR'.h) (by omega) (hT.wk hW o));generalize j6 lo lo' P false=r1 at *;generalize j6 hi hi' P true=r2 at *;clear hbo hbad hP hPt hR hR';go_upto_region 3 with fail
   go_cut [7,8] (fun sd so wx=>∃ g2 A2 n2 c2,sd=.pointer (some ⟨g2,0,none⟩)/\so=.bool r1.ok/\w.heap.size<=g2/\St 49 w g p false wx [(24,g2,s3 r1 A2 n2 c2),(31,w.heap.size+1+1,zs),(31,w.heap.size+1,s6 lo' A' n' c' hi' B' m' d'),(31,w.heap.size,s6 lo A n c hi B m d)] [(.slice A2 n2 c2,r1.m)])
   case first =>
    have HC:Hid (∀ w',St 49 w g p false w' [(31,w.heap.size+1+1,zs),(31,w.heap.size+1,s6 lo' A' n' c' hi' B' m' d'),(31,w.heap.size,s6 lo A n c hi B m d)] []->C3 w' (w.heap.size) (.bool lo.neg) (.slice A n c) (.int .i64 lo.e)/\C3 w' (w.heap.size+1) (.bool lo'.neg) (.slice A' n' c') (.int .i64 lo'.e)/\w'.cell? ⟨g,0,none⟩=some (.int .i64 p)):=lY (fun w' h=>⟨h.ks.2.2.1.1.c3,h.ks.2.1.1.c3,h.wc.1⟩);have hz0:=S.ks.1.1.2;have hz1:=S.ks.2.1.1.2;have hz2:=S.ks.2.2.1.1.2;have hz:w.heap.size<=w2.heap.size:=S.size;have SD:=S.drew;have SA:=SD.below (ag w2.drew (bJ (.bool false) (.slice none 0 0) (.int .i64 0)));have XS1:=HC.out _ SD;clear S
    go_region_held3 (fun w'=>C3 w' (w.heap.size) (.bool lo.neg) (.slice A n c) (.int .i64 lo.e)/\C3 w' (w.heap.size+1) (.bool lo'.neg) (.slice A' n' c') (.int .i64 lo'.e)/\w'.cell? ⟨g,0,none⟩=some (.int .i64 p))
     (first | exact XS1 | exact HC.out _ (SD.below b1) | exact HC.out _ SA | exact HC.out _ (SA.below b1) | exact HC.out _ ((SD.below b1).below (ag _ _)) | exact HC.out _ ((SA.below b1).put KZ1.kc hz ⟨by omega,by omega,by omega,trivial⟩ _ _ _))
     (first | (go_at_call 104;refine(D1.out _ (by first | exact SD.O | exact SA.O)).mono ?_;rintro e' v1 ⟨A1,p1,c1,rfl,n1,b1⟩;first | (have KZ1:K3 v1 w2.heap.size (.bool false) (.slice none 0 0) (.int .i64 0):=(K3.made w2.drew (.bool false) (.slice none 0 0) (.int .i64 0)).adv b1;obtain⟨kf0,kf1,kf2⟩:=KZ1.frozen;obtain⟨kc0,kc1,kc2,kc3⟩:=KZ1.cell) | skip))
    all_goals (go_wp2_with fail;go_meet;first | exact⟨_,_,_,_,rfl,rfl,Nat.le_trans hz b1.size,((SD.below b1).num n1).alloc _ _⟩ | exact⟨_,_,_,_,rfl,rfl,hz,((SA.below b1).num n1).putK KZ1.kc hz ⟨by omega,by omega,by omega,trivial⟩ _ _ _⟩)
   case rest =>
    clear S;obtain⟨g2,A2,n2,c2,rfl,rfl,hg2,S⟩:=hcut;go_upto_region 4 with fail
    go_cut [9,10] (fun sd so wx=>∃ g3 A3 n3 c3,sd=.pointer (some ⟨g3,0,none⟩)/\so=.bool r2.ok/\w.heap.size<=g3/\St 49 w g p false wx [(24,g3,s3 r2 A3 n3 c3),(24,g2,s3 r1 A2 n2 c2),(31,w.heap.size+1+1,zs),(31,w.heap.size+1,s6 lo' A' n' c' hi' B' m' d'),(31,w.heap.size,s6 lo A n c hi B m d)] [(.slice A3 n3 c3,r2.m),(.slice A2 n2 c2,r1.m)])
    case first =>
     have HC:Hid (∀ w',St 49 w g p false w' [(24,g2,s3 r1 A2 n2 c2),(31,w.heap.size+1+1,zs),(31,w.heap.size+1,s6 lo' A' n' c' hi' B' m' d'),(31,w.heap.size,s6 lo A n c hi B m d)] [(.slice A2 n2 c2,r1.m)]->w'.cell? ⟨w.heap.size,3,none⟩=some (.bool hi.neg)/\w'.cell? ⟨w.heap.size,4,none⟩=some (.slice B m d)/\w'.cell? ⟨w.heap.size,5,none⟩=some (.int .i64 hi.e)/\w'.cell? ⟨w.heap.size+1,3,none⟩=some (.bool hi'.neg)/\w'.cell? ⟨w.heap.size+1,4,none⟩=some (.slice B' m' d')/\w'.cell? ⟨w.heap.size+1,5,none⟩=some (.int .i64 hi'.e)/\w'.cell? ⟨g,0,none⟩=some (.int .i64 p)):=lY (fun w' h=>⟨h.ks.2.2.2.1.1.at_ 3 _ rfl,h.ks.2.2.2.1.1.at_ 4 _ rfl,h.ks.2.2.2.1.1.at_ 5 _ rfl,h.ks.2.2.1.1.at_ 3 _ rfl,h.ks.2.2.1.1.at_ 4 _ rfl,h.ks.2.2.1.1.at_ 5 _ rfl,h.wc.1⟩);have hz0:=S.ks.1.1.2;have hz1:=S.ks.2.1.1.2;have hz2:=S.ks.2.2.1.1.2;have hz3:=S.ks.2.2.2.1.1.2;have hz:w.heap.size<=wc.heap.size:=S.size;have SD:=S.drew;have SA:=SD.below (ag wc.drew (bJ (.bool false) (.slice none 0 0) (.int .i64 0)));have XS1:=HC.out _ SD;clear S
     go_region_held3 (fun w'=>w'.cell? ⟨w.heap.size,3,none⟩=some (.bool hi.neg)/\w'.cell? ⟨w.heap.size,4,none⟩=some (.slice B m d)/\w'.cell? ⟨w.heap.size,5,none⟩=some (.int .i64 hi.e)/\w'.cell? ⟨w.heap.size+1,3,none⟩=some (.bool hi'.neg)/\w'.cell? ⟨w.heap.size+1,4,none⟩=some (.slice B' m' d')/\w'.cell? ⟨w.heap.size+1,5,none⟩=some (.int .i64 hi'.e)/\w'.cell? ⟨g,0,none⟩=some (.int .i64 p))
      (first | exact XS1 | exact HC.out _ (SD.below b1) | exact HC.out _ SA | exact HC.out _ (SA.below b1) | exact HC.out _ ((SD.below b1).below (ag _ _)) | exact HC.out _ ((SA.below b1).put KZ1.kc hz ⟨by omega,by omega,by omega,by omega,trivial⟩ _ _ _))
      (first | (go_at_call 104;refine(D2.out _ (by first | exact SD.O | exact SA.O)).mono ?_;rintro e' v1 ⟨A1,p1,c1,rfl,n1,b1⟩;first | (have KZ1:K3 v1 wc.heap.size (.bool false) (.slice none 0 0) (.int .i64 0):=(K3.made wc.drew (.bool false) (.slice none 0 0) (.int .i64 0)).adv b1;obtain⟨kf0,kf1,kf2⟩:=KZ1.frozen;obtain⟨kc0,kc1,kc2,kc3⟩:=KZ1.cell) | skip))
     all_goals (go_wp2_with fail;go_meet;first | exact⟨_,_,_,_,rfl,rfl,Nat.le_trans hz b1.size,((SD.below b1).num n1).alloc _ _⟩ | exact⟨_,_,_,_,rfl,rfl,hz,((SA.below b1).num n1).putK KZ1.kc hz ⟨by omega,by omega,by omega,by omega,trivial⟩ _ _ _⟩)
    case rest =>
     clear S;obtain⟨g3,A3,n3,c3,rfl,rfl,hg3,S⟩:=hcut;have k4:=S.ks.2.1.1;obtain⟨k4_0,k4_1,k4_2⟩:=k4.c3;have k4l:=k4.2;clear k4;have k5:=S.ks.1.1;obtain⟨k5_0,k5_1,k5_2⟩:=k5.c3;have k5l:=k5.2;clear k5;go_wp2_with fail;refine(lf g p false r1 r2 A2 A3 n2 c2 n3 c3 r1.ok r2.ok _ S.W S.ns.2.1 S.ns.1).mono ?_;rintro e' w7 ⟨A9,p9,c9,B9,q9,d9,rfl,m1,m2,hW9,o9⟩;replace S:=S.only o9 hW9;clear o9 hW9 k4_0 k4_1 k4_2 k4l k5_0 k5_1 k5_2 k5l;generalize cG false r1 r2 (r1.ok && r2.ok)=r at *;have kR:=S.ks.2.2.1.1;obtain⟨s0,s1,s2,s3q,s4,s5⟩:=kR.c6;obtain⟨rf0,rf1,rf2,rf3,rf4,rf5⟩:=kR.f6;go_wp2_with fail;rw[HT.out];obtain⟨q1,q2,q3,q4⟩:=S.give (lo:=r.lo) (hi:=r.hi) m1 m2 kR (by omega);exact bodyPost_ret (v:=aG r.lo.neg A9 p9 c9 r.lo.e r.hi.neg B9 q9 d9 r.hi.e) (by simp[results,tz,go_sem,s0,s1,s2,s3q,s4,s5]) rfl ⟨A9,p9,c9,B9,q9,d9,rfl,q1,q2,q3,q4⟩
theorem su (g:Nat)(p:Int)(bad:Bool)(w:World)(hW:Wk TW w g p bad)(ha:aC w A n c lo)(hb:aC w B m d hi)(ha':aC w A' n' c' lo')(hb':aC w B' m' d' hi')(hT:bx w):
 Calls mF 39 #[.pointer (some ⟨g,0,none⟩),aG lo.neg A n c lo.e hi.neg B m d hi.e,aG lo'.neg A' n' c' lo'.e hi'.neg B' m' d' hi'.e] w (ap TW w g p (dC p bad lo hi lo' hi')):=by
 have S:=yB hW (.bool lo.neg) (.slice A n c) (.int .i64 lo.e) (.bool hi.neg) (.slice B m d) (.int .i64 hi.e) (.bool lo'.neg) (.slice A' n' c') (.int .i64 lo'.e) (.bool hi'.neg) (.slice B' m' d') (.int .i64 hi'.e);have TK:=vI g p bad _ S.W (ha.wk hW S.O) (hb.wk hW S.O) (ha'.wk hW S.O) (hb'.wk hW S.O);rw[show(((w.alloc (ce (.bool lo.neg) (.slice A n c) (.int .i64 lo.e) (.bool hi.neg) (.slice B m d) (.int .i64 hi.e))).alloc (ce (.bool lo'.neg) (.slice A' n' c') (.int .i64 lo'.e) (.bool hi'.neg) (.slice B' m' d') (.int .i64 hi'.e))).alloc z6).heap.size=w.heap.size+1+1+1 by simp]at TK;have TKH:=lY TK;clear TK;have k0:=S.ks.2.2.1.1;obtain⟨k0_0,k0_1,k0_2,k0_3,k0_4,k0_5⟩:=k0.c6;have k0l:=k0.2;clear k0;have k1:=S.ks.2.1.1;obtain⟨k1_0,k1_1,k1_2,k1_3,k1_4,k1_5⟩:=k1.c6;have k1l:=k1.2;clear k1;go_enter Tryz.func39,Tryz.ntmps39;go_wp2_with fail;refine TKH.out.mono ?_;clear TKH k0_0 k0_1 k0_2 k0_3 k0_4 k0_5 k0l k1_0 k1_1 k1_2 k1_3 k1_4 k1_5 k1l;generalize((w.alloc (ce (.bool lo.neg) (.slice A n c) (.int .i64 lo.e) (.bool hi.neg) (.slice B m d) (.int .i64 hi.e))).alloc (ce (.bool lo'.neg) (.slice A' n' c') (.int .i64 lo'.e) (.bool hi'.neg) (.slice B' m' d') (.int .i64 hi'.e))).alloc z6=w1 at *;rintro e' w2 ⟨rfl,hW2,o2⟩;replace S:=S.only o2 hW2;clear o2 hW2;obtain⟨bo,hbo⟩:∃ b:Bool,Hid (dL p bad lo hi lo' hi'=b):=⟨_,lY rfl⟩;rw[hbo.out]at S;rw[hbo.out];cases bo
 rotate_left
 . have HT:Hid (dC p bad lo hi lo' hi'=SRes.no):=lY (by unfold dC;rw[hbo.out];rfl)
   have kR:=S.ks.1.1;obtain⟨s0,s1,s2,s3q,s4,s5⟩:=kR.c6;obtain⟨rf0,rf1,rf2,rf3,rf4,rf5⟩:=kR.f6;go_wp2_with fail;rw[HT.out];obtain⟨q1,q2,q3,q4⟩:=S.give (lo:=DR.zero) (hi:=DR.zero) (aq _) (aq _) kR (by omega);exact bodyPost_ret (v:=aG false none 0 0 0 false none 0 0 0) (by simp[results,yb,go_sem,s0,s1,s2,s3q,s4,s5]) rfl ⟨none,0,0,none,0,0,rfl,q1,q2,q3,q4⟩
 . skip
   obtain⟨hbad,hp,hR,hR'⟩:=eB hbo.out;obtain⟨P,hP⟩:∃ P:Nat,p=(P:Int):=⟨p.toNat,by omega⟩
   have hPt:p.toNat=P:=by omega
   have HT:Hid (dC p bad lo hi lo' hi'=gF P (bS lo lo') (bS hi hi')):=lY (by unfold dC;rw[hbo.out,hPt];rfl);have D1:Hid (∀ w',az w w' g->Calls mF 81 #[aP lo.neg A n c lo.e,aP lo'.neg A' n' c' lo'.e] w' (fg w' (bS lo lo'))):=lY (fun w' o=>rT w' ((ha.wk hW o).num hR.l) ((ha'.wk hW o).num hR'.l) (ha.plain hR.l) (ha'.plain hR'.l));have D2:Hid (∀ w',az w w' g->Calls mF 81 #[aP hi.neg B m d hi.e,aP hi'.neg B' m' d' hi'.e] w' (fg w' (bS hi hi'))):=lY (fun w' o=>rT w' ((hb.wk hW o).num hR.h) ((hb'.wk hW o).num hR'.h) (hb.plain hR.h) (hb'.plain hR'.h));have wd1:=pq (ha.plain hR.l) (ha'.plain hR'.l);have wd2:=pq (hb.plain hR.h) (hb'.plain hR'.h)
   have OW:Hid (∀ w' A1 n1 c1 A2 n2 c2,Wk TW w' g p false->az w w' g->am w' (.slice A1 n1 c1) (bS lo lo').m->am w' (.slice A2 n2 c2) (bS hi hi').m->Calls mF 70 #[.pointer (some ⟨g,0,none⟩),aP (bS lo lo').neg A1 n1 c1 (bS lo lo').e,aP (bS hi hi').neg A2 n2 c2 (bS hi hi').e] w' (ap TW w' g p (gF P (bS lo lo') (bS hi hi')))):=lY (fun w' A1 n1 c1 A2 n2 c2 k o h1 h2=>by
    rw[hP]at k ⊢
    exact ja g P (by omega) w' k h1 h2 ⟨by have:=wd1.bits;omega,by have:=wd1.e1;omega,by have:=wd1.e2;omega⟩ ⟨by have:=wd2.bits;omega,by have:=wd2.e1;omega,by have:=wd2.e2;omega⟩ (hT.wk hW o))
   clear wd1 wd2;generalize gF P (bS lo lo') (bS hi hi')=z at *;generalize bS lo lo'=r1 at *;generalize bS hi hi'=r2 at *;clear hbo hbad hP hPt hR hR';have HC:Hid (∀ w' bd ns,St TW w g p bd w' [(31,w.heap.size+1+1,zs),(31,w.heap.size+1,s6 lo' A' n' c' hi' B' m' d'),(31,w.heap.size,s6 lo A n c hi B m d)] ns->D6 w' (w.heap.size) lo A n c hi B m d/\D6 w' (w.heap.size+1) lo' A' n' c' hi' B' m' d'):=lY (fun w' bd ns h=>⟨h.ks.2.2.1.1.c6,h.ks.2.1.1.c6⟩);have HK:Hid (∀ w' w9 bd ns,St TW w g p bd w' [(31,w.heap.size+1+1,zs),(31,w.heap.size+1,s6 lo' A' n' c' hi' B' m' d'),(31,w.heap.size,s6 lo A n c hi B m d)] ns->az w' w9 (w.heap.size+1+1)->D6 w9 (w.heap.size) lo A n c hi B m d/\D6 w9 (w.heap.size+1) lo' A' n' c' hi' B' m' d'):=lY (fun w' w9 bd ns h o=>⟨(h.ks.2.2.1.1.only o (by omega)).c6,(h.ks.2.1.1.only o (by omega)).c6⟩);have LC:=S.drew;clear S;have XS:=HC.out _ _ _ LC;go_upto_region 3 with fail
   go_region_held3 (fun w'=>D6 w' (w.heap.size) lo A n c hi B m d/\D6 w' (w.heap.size+1) lo' A' n' c' hi' B' m' d')
    (first | with_reducible exact HC.out v3 _ _ L9 | (refine HK.out v3 _ _ _ L9 ?_;with_reducible exact aK _ _ _ _ _ _ _ _) | with_reducible exact HC.out _ _ _ LC | with_reducible exact XS)
    (first
     | (go_at_call_of 81 (DE #[Bx lo.neg,oM A n c,DF .i64 lo.e]);refine(D1.out _ LC.O).mono ?_;rintro e' v1 ⟨A1,n1,c1,rfl,m1,b1⟩;have LQ:=(LC.below b1).num m1;clear LC;have LC:=LQ;clear LQ m1 b1)
     | (go_at_call_of 81 (DE #[Bx hi.neg,oM B m d,DF .i64 hi.e]);refine(D2.out _ LC.O).mono ?_;rintro e' v2 ⟨A2,n2,c2,rfl,m2,b2⟩;have LQ:=(LC.below b2).num m2;clear LC;have LC:=LQ;clear LQ m2 b2)
     | (go_at_call 70;refine(OW.out _ _ _ _ _ _ _ LC.W LC.O LC.ns.2.1 LC.ns.1).mono ?_;rintro e' v3 ⟨A9,p9,c9,B9,q9,d9,rfl,m1,m2,hW9,o9⟩;have L9:=((LC.only o9 hW9).num m2).num m1;obtain⟨s0,s1,s2,s3q,s4,s5⟩:=L9.ks.1.1.c6;obtain⟨rf0,rf1,rf2,rf3,rf4,rf5⟩:=L9.ks.1.1.f6))
   go_wp2_with fail;rw[HT.out];obtain⟨y1,y2,y3,y4⟩:=L9.give (lo:=z.lo) (hi:=z.hi) L9.ns.1 L9.ns.2.1 L9.ks.1.1 (by omega);exact bodyPost_ret (v:=aG (z.lo).neg A9 p9 c9 (z.lo).e (z.hi).neg B9 q9 d9 (z.hi).e) (by simp[results,yb,go_sem,s0,s1,s2,s3q,s4,s5]) rfl ⟨A9,p9,c9,B9,q9,d9,rfl,y1,y2,y3,y4⟩
end
section
variable {TW:TypeId}
def eT (p:Int)(bad:Bool)(lo hi lo' hi':DR):SRes:=dC p (gS p bad lo' hi').bad lo hi (gS p bad lo' hi').lo (gS p bad lo' hi').hi
theorem lJ {p:Int}{bad:Bool}(h1:lo.ok=true->bl lo)(h2:hi.ok=true->bl hi):dA (gS p bad lo hi):=lI (jF h2) (jF h1)
theorem AY {p:Int}{bad:Bool}(h:dL p bad lo hi lo' hi'=true):eT p bad lo hi lo' hi'=SRes.no:=by
 unfold eT;cases h1:eD p bad lo' hi'
 . obtain⟨rfl,hp,hR⟩:=gN h1
   have hr:aw lo' hi'=true:=by
    unfold eD at h1;simp only[Bool.or_eq_false_iff,Bool.not_eq_false']at h1;exact h1.2
   have hpb:ge p=false:=by unfold ge;simp;omega
   have hl:aw lo hi=false:=by
    unfold dL at h;rw[hpb,hr]at h
    simpa using h
   unfold dC dL;rw[hl]
   simp[il]
 . have:gS p bad lo' hi'=SRes.no:=by unfold gS il;rw[h1];rfl
   rw[this]
   rfl
theorem sc (g:Nat)(p:Int)(bad:Bool)(w:World)(hW:Wk TW w g p bad)(ha:aC w A n c lo)(hb:aC w B m d hi)(ha':aC w A' n' c' lo')(hb':aC w B' m' d' hi')(hT:bx w):
 Calls mF 28 #[.pointer (some ⟨g,0,none⟩),aG lo.neg A n c lo.e hi.neg B m d hi.e,aG lo'.neg A' n' c' lo'.e hi'.neg B' m' d' hi'.e] w (ap TW w g p (eT p bad lo hi lo' hi')):=by
 have S:=yB hW (.bool lo.neg) (.slice A n c) (.int .i64 lo.e) (.bool hi.neg) (.slice B m d) (.int .i64 hi.e) (.bool lo'.neg) (.slice A' n' c') (.int .i64 lo'.e) (.bool hi'.neg) (.slice B' m' d') (.int .i64 hi'.e);obtain⟨x,hx⟩:=du (gS p bad lo' hi')
 have GX:dA x:=by rw[hx];exact lJ (fun h=>ha'.plain h) (fun h=>hb'.plain h)
 have N1:Hid (∀ w',Wk TW w' g p bad->az w w' g->Calls mF 69 #[.pointer (some ⟨g,0,none⟩),aG lo'.neg A' n' c' lo'.e hi'.neg B' m' d' hi'.e] w' (ap TW w' g p x)):=lY (fun w' k o=>by rw[hx];exact wm g p bad w' k (ha'.wk hW o) (hb'.wk hW o) (hT.wk hW o));have N2:Hid (∀ w' X1 x1 y1 X2 x2 y2,Wk TW w' g p x.bad->az w w' g->am w' (.slice X1 x1 y1) x.lo.m->am w' (.slice X2 x2 y2) x.hi.m->Calls mF 39 #[.pointer (some ⟨g,0,none⟩),aG lo.neg A n c lo.e hi.neg B m d hi.e,aG x.lo.neg X1 x1 y1 x.lo.e x.hi.neg X2 x2 y2 x.hi.e] w' (ap TW w' g p (dC p x.bad lo hi x.lo x.hi))):=lY (fun w' X1 x1 y1 X2 x2 y2 k o h1 h2=>su g p x.bad w' k (ha.wk hW o) (hb.wk hW o) (aC.of_num h1 GX.l2 GX.l1) (aC.of_num h2 GX.h2 GX.h1) (hT.wk hW o));have HT:Hid (eT p bad lo hi lo' hi'=dC p x.bad lo hi x.lo x.hi):=lY (by unfold eT;rw[← hx]);generalize dC p x.bad lo hi x.lo x.hi=z at *;clear hx GX;go_enter Tryz.func28,Tryz.ntmps28;go_upto_region 1 with fail;generalize((w.alloc (ce (.bool lo.neg) (.slice A n c) (.int .i64 lo.e) (.bool hi.neg) (.slice B m d) (.int .i64 hi.e))).alloc (ce (.bool lo'.neg) (.slice A' n' c') (.int .i64 lo'.e) (.bool hi'.neg) (.slice B' m' d') (.int .i64 hi'.e))).alloc z6=w1 at *;have HC:Hid (∀ w' bd ns,St TW w g p bd w' [(31,w.heap.size+1+1,zs),(31,w.heap.size+1,s6 lo' A' n' c' hi' B' m' d'),(31,w.heap.size,s6 lo A n c hi B m d)] ns->D6 w' (w.heap.size) lo A n c hi B m d/\D6 w' (w.heap.size+1) lo' A' n' c' hi' B' m' d'):=lY (fun w' bd ns h=>⟨h.ks.2.2.1.1.c6,h.ks.2.1.1.c6⟩);have HK:Hid (∀ w' w9 bd ns,St TW w g p bd w' [(31,w.heap.size+1+1,zs),(31,w.heap.size+1,s6 lo' A' n' c' hi' B' m' d'),(31,w.heap.size,s6 lo A n c hi B m d)] ns->az w' w9 (w.heap.size+1+1)->D6 w9 (w.heap.size) lo A n c hi B m d/\D6 w9 (w.heap.size+1) lo' A' n' c' hi' B' m' d'):=lY (fun w' w9 bd ns h o=>⟨(h.ks.2.2.1.1.only o (by omega)).c6,(h.ks.2.1.1.only o (by omega)).c6⟩)
 have LC:=S.drew;clear S;have XS:=HC.out _ _ _ LC;go_upto_region 1 with fail
 go_region_held3 (fun w'=>D6 w' (w.heap.size) lo A n c hi B m d/\D6 w' (w.heap.size+1) lo' A' n' c' hi' B' m' d')
  (first | with_reducible exact HC.out v3 _ _ L9 | (refine HK.out v3 _ _ _ L9 ?_;with_reducible exact aK _ _ _ _ _ _ _ _) | with_reducible exact HC.out _ _ _ LC | with_reducible exact XS)
  (first
   | (go_at_call 69;refine(N1.out _ LC.W LC.O).mono ?_;rintro e' v1 ⟨X1,x1,y1,X2,x2,y2,rfl,m1,m2,hW1,o1⟩;have LQ:=((LC.only o1 hW1).num m2).num m1;clear LC;have LC:=LQ;clear LQ m1 m2 hW1 o1)
   | (go_at_call 39;refine(N2.out _ _ _ _ _ _ _ LC.W LC.O LC.ns.1 LC.ns.2.1).mono ?_;rintro e' v3 ⟨A9,p9,c9,B9,q9,d9,rfl,m1,m2,hW9,o9⟩;have L9:=((LC.only o9 hW9).num m2).num m1;obtain⟨s0,s1,s2,s3q,s4,s5⟩:=L9.ks.1.1.c6;obtain⟨rf0,rf1,rf2,rf3,rf4,rf5⟩:=L9.ks.1.1.f6))
 go_wp2_with fail;rw[HT.out];obtain⟨y1,y2,y3,y4⟩:=L9.give (lo:=z.lo) (hi:=z.hi) L9.ns.1 L9.ns.2.1 L9.ks.1.1 (by omega);exact bodyPost_ret (v:=aG (z.lo).neg A9 p9 c9 (z.lo).e (z.hi).neg B9 q9 d9 (z.hi).e) (by simp[results,Tryz.results28,go_sem,s0,s1,s2,s3q,s4,s5]) rfl ⟨A9,p9,c9,B9,q9,d9,rfl,y1,y2,y3,y4⟩
theorem xa (g:Nat)(p:Int)(bad:Bool)(w:World)(hW:Wk 49 w g p bad)(ha:aC w A n c lo)(hb:aC w B m d hi)(ha':aC w A' n' c' lo')(hb':aC w B' m' d' hi')(hT:bx w):
 Calls mF 59 #[.pointer (some ⟨g,0,none⟩),aG lo.neg A n c lo.e hi.neg B m d hi.e,aG lo'.neg A' n' c' lo'.e hi'.neg B' m' d' hi'.e] w (ap 49 w g p (eT p bad lo hi lo' hi')):=by
 have S:=yB hW (.bool lo.neg) (.slice A n c) (.int .i64 lo.e) (.bool hi.neg) (.slice B m d) (.int .i64 hi.e) (.bool lo'.neg) (.slice A' n' c') (.int .i64 lo'.e) (.bool hi'.neg) (.slice B' m' d') (.int .i64 hi'.e);have TK:=nD g p bad _ S.W (ha.wk hW S.O) (hb.wk hW S.O) (ha'.wk hW S.O) (hb'.wk hW S.O);rw[show(((w.alloc (ce (.bool lo.neg) (.slice A n c) (.int .i64 lo.e) (.bool hi.neg) (.slice B m d) (.int .i64 hi.e))).alloc (ce (.bool lo'.neg) (.slice A' n' c') (.int .i64 lo'.e) (.bool hi'.neg) (.slice B' m' d') (.int .i64 hi'.e))).alloc z6).heap.size=w.heap.size+1+1+1 by simp]at TK;have TKH:=lY TK;clear TK;have k0:=S.ks.2.2.1.1;obtain⟨k0_0,k0_1,k0_2,k0_3,k0_4,k0_5⟩:=k0.c6;have k0l:=k0.2;clear k0;have k1:=S.ks.2.1.1;obtain⟨k1_0,k1_1,k1_2,k1_3,k1_4,k1_5⟩:=k1.c6;have k1l:=k1.2;clear k1;go_enter Tryz.func59,Tryz.ntmps59;go_wp2_with fail;refine TKH.out.mono ?_;clear TKH k0_0 k0_1 k0_2 k0_3 k0_4 k0_5 k0l k1_0 k1_1 k1_2 k1_3 k1_4 k1_5 k1l;generalize((w.alloc (ce (.bool lo.neg) (.slice A n c) (.int .i64 lo.e) (.bool hi.neg) (.slice B m d) (.int .i64 hi.e))).alloc (ce (.bool lo'.neg) (.slice A' n' c') (.int .i64 lo'.e) (.bool hi'.neg) (.slice B' m' d') (.int .i64 hi'.e))).alloc z6=w1 at *;rintro e' w2 ⟨rfl,hW2,o2⟩;replace S:=S.only o2 hW2;clear o2 hW2;obtain⟨bo,hbo⟩:∃ b:Bool,Hid (dL p bad lo hi lo' hi'=b):=⟨_,lY rfl⟩;rw[hbo.out]at S;rw[hbo.out];cases bo
 rotate_left
 . have HT:Hid (eT p bad lo hi lo' hi'=SRes.no):=lY (AY hbo.out)
   have kR:=S.ks.1.1;obtain⟨s0,s1,s2,s3q,s4,s5⟩:=kR.c6;obtain⟨rf0,rf1,rf2,rf3,rf4,rf5⟩:=kR.f6;go_wp2_with fail;rw[HT.out];obtain⟨q1,q2,q3,q4⟩:=S.give (lo:=DR.zero) (hi:=DR.zero) (aq _) (aq _) kR (by omega);exact bodyPost_ret (v:=aG false none 0 0 0 false none 0 0 0) (by simp[results,Bl,go_sem,s0,s1,s2,s3q,s4,s5]) rfl ⟨none,0,0,none,0,0,rfl,q1,q2,q3,q4⟩
 . skip
   obtain⟨hbad,hp,hR,hR'⟩:=eB hbo.out;obtain⟨x,hx⟩:=du (gS p false lo' hi')
   have GX:dA x:=by rw[hx];exact lJ (fun h=>ha'.plain h) (fun h=>hb'.plain h)
   have N1:Hid (∀ w',Wk 49 w' g p false->az w w' g->Calls mF 106 #[.pointer (some ⟨g,0,none⟩),aG lo'.neg A' n' c' lo'.e hi'.neg B' m' d' hi'.e] w' (ap 49 w' g p x)):=lY (fun w' k o=>by rw[hx];exact yP g p false w' k (ha'.wk hW o) (hb'.wk hW o) (hT.wk hW o));have N2:Hid (∀ w' X1 x1 y1 X2 x2 y2,Wk 49 w' g p x.bad->az w w' g->am w' (.slice X1 x1 y1) x.lo.m->am w' (.slice X2 x2 y2) x.hi.m->Calls mF 54 #[.pointer (some ⟨g,0,none⟩),aG lo.neg A n c lo.e hi.neg B m d hi.e,aG x.lo.neg X1 x1 y1 x.lo.e x.hi.neg X2 x2 y2 x.hi.e] w' (ap 49 w' g p (dC p x.bad lo hi x.lo x.hi))):=lY (fun w' X1 x1 y1 X2 x2 y2 k o h1 h2=>jB g p x.bad w' k (ha.wk hW o) (hb.wk hW o) (aC.of_num h1 GX.l2 GX.l1) (aC.of_num h2 GX.h2 GX.h1) (hT.wk hW o));have HT:Hid (eT p bad lo hi lo' hi'=dC p x.bad lo hi x.lo x.hi):=lY (by unfold eT;rw[hbad,← hx]);generalize dC p x.bad lo hi x.lo x.hi=z at *;clear hx GX hbo hbad hp hR hR';have HC:Hid (∀ w' bd ns,St 49 w g p bd w' [(31,w.heap.size+1+1,zs),(31,w.heap.size+1,s6 lo' A' n' c' hi' B' m' d'),(31,w.heap.size,s6 lo A n c hi B m d)] ns->D6 w' (w.heap.size) lo A n c hi B m d/\D6 w' (w.heap.size+1) lo' A' n' c' hi' B' m' d'):=lY (fun w' bd ns h=>⟨h.ks.2.2.1.1.c6,h.ks.2.1.1.c6⟩);have HK:Hid (∀ w' w9 bd ns,St 49 w g p bd w' [(31,w.heap.size+1+1,zs),(31,w.heap.size+1,s6 lo' A' n' c' hi' B' m' d'),(31,w.heap.size,s6 lo A n c hi B m d)] ns->az w' w9 (w.heap.size+1+1)->D6 w9 (w.heap.size) lo A n c hi B m d/\D6 w9 (w.heap.size+1) lo' A' n' c' hi' B' m' d'):=lY (fun w' w9 bd ns h o=>⟨(h.ks.2.2.1.1.only o (by omega)).c6,(h.ks.2.1.1.only o (by omega)).c6⟩)
   have LC:=S.drew;clear S;have XS:=HC.out _ _ _ LC;go_upto_region 3 with fail
   go_region_held3 (fun w'=>D6 w' (w.heap.size) lo A n c hi B m d/\D6 w' (w.heap.size+1) lo' A' n' c' hi' B' m' d')
    (first | with_reducible exact HC.out v3 _ _ L9 | (refine HK.out v3 _ _ _ L9 ?_;with_reducible exact aK _ _ _ _ _ _ _ _) | with_reducible exact HC.out _ _ _ LC | with_reducible exact XS)
    (first
     | (go_at_call 106;refine(N1.out _ LC.W LC.O).mono ?_;rintro e' v1 ⟨X1,x1,y1,X2,x2,y2,rfl,m1,m2,hW1,o1⟩;have LQ:=((LC.only o1 hW1).num m2).num m1;clear LC;have LC:=LQ;clear LQ m1 m2 hW1 o1)
     | (go_at_call 54;refine(N2.out _ _ _ _ _ _ _ LC.W LC.O LC.ns.1 LC.ns.2.1).mono ?_;rintro e' v3 ⟨A9,p9,c9,B9,q9,d9,rfl,m1,m2,hW9,o9⟩;have L9:=((LC.only o9 hW9).num m2).num m1;obtain⟨s0,s1,s2,s3q,s4,s5⟩:=L9.ks.1.1.c6;obtain⟨rf0,rf1,rf2,rf3,rf4,rf5⟩:=L9.ks.1.1.f6))
   go_wp2_with fail;rw[HT.out];obtain⟨y1,y2,y3,y4⟩:=L9.give (lo:=z.lo) (hi:=z.hi) L9.ns.1 L9.ns.2.1 L9.ks.1.1 (by omega);exact bodyPost_ret (v:=aG (z.lo).neg A9 p9 c9 (z.lo).e (z.hi).neg B9 q9 d9 (z.hi).e) (by simp[results,Bl,go_sem,s0,s1,s2,s3q,s4,s5]) rfl ⟨A9,p9,c9,B9,q9,d9,rfl,y1,y2,y3,y4⟩
end
end Go.Proofs.YtmbmohibpkepdaaGreatDoor
