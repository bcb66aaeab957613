import Derived.Deep.QuietTactic
import Derived.BigQuiet
import Derived.Test.YtmbmohibpkepdaaGreatDoorPlSGDy8
set_option maxHeartbeats 4000000
open Go.Lib renaming hid->lY
open Nat renaming eq_zero_or_pos->mF, zero_mul->oY, two_pow_pos->Bx, pow_zero->DE, mul_one->DF
open Go.Proofs.Tryz renaming prog->ou, ntmps67->qK, ntmps63->tz, func67->yb, func63->Bl
open Go.Value renaming slice->oM
namespace Go.Proofs.YtmbmohibpkepdaaGreatDoor
open Go.RowKit
variable {V Va Vb n:Nat} {ea eb:Int}
def cF (V:Nat)(e o:Int):Nat:=V*2^(e-min e o).toNat
def dx (Va Vb:Nat)(ea eb:Int):Int:=cQ (cF Va ea eb) (cF Vb eb ea)
def fa (na nb':Bool)(Va Vb:Nat)(ea eb:Int):Int:=if na=nb' then(if na then-dx Va Vb ea eb else dx Va Vb ea eb) else(if na then -1 else 1)
def gh (ok na nb':Bool)(Va Vb:Nat)(ea eb:Int):Int:=if ok then fa na nb' Va Vb ea eb else 0
theorem qQ (hb:0 < Vb)(h:ea+(nb Va:Int) < eb+(nb Vb:Int)):cF Va ea eb < cF Vb eb ea:=by
 unfold cF;have h1:Va*2^(ea-min ea eb).toNat < 2^nb Va*2^(ea-min ea eb).toNat:=Nat.mul_lt_mul_of_pos_right (dZ Va) (Bx _);have h2:2^(nb Vb-1)*2^(eb-min eb ea).toNat<=Vb*2^(eb-min eb ea).toNat:=Nat.mul_le_mul_right _ (fA hb);rw[← Nat.pow_add]at h1 h2;have h3:=gg hb;have h4:2^(nb Va+(ea-min ea eb).toNat)<=2^(nb Vb-1+(eb-min eb ea).toNat):=Nat.pow_le_pow_right (by omega) (by omega);omega
def jp (a b:Int):Int:=if a < b then -1 else if b < a then 1 else 0
theorem l8 (a b:Int)(w:World):Calls ou 67 #[.int .i64 a,.int .i64 b] w fun e w'=>e=.returned (.int .i64 (jp a b))/\w'=w:=by
 unfold jp
 rcases Int.lt_trichotomy a b with h | rfl | h
 . rw[if_pos h]
   go_enter yb,qK
   go_wp2
   go_ret;exact⟨rfl,rfl⟩
 . rw[if_neg (by omega),if_neg (by omega)]
   go_enter yb,qK
   go_wp2
   go_ret;exact⟨rfl,rfl⟩
 . have h2:¬ a < b:=by omega
   rw[if_neg h2,if_pos h];go_enter yb,qK
   go_wp2
   go_ret;exact⟨rfl,rfl⟩
structure FA (w w1:World)(na:Bool)(A:OA)(n c:Nat)(ea:Int)(nb':Bool)(B:OA)(m d:Nat)(eb:Int):Prop where
 bel:Below w.heap.size w w1
 ka:cA w1 w.heap.size (.bool na) (.slice A n c) (.int .i64 ea)
 kb:cA w1 (w.heap.size+1) (.bool nb') (.slice B m d) (.int .i64 eb)
 sz:w.heap.size+2<=w1.heap.size
section
variable {w w1 w2:World} {na nb':Bool} {A B:OA} {n c m d:Nat} {ea eb:Int}
theorem FA.adv (h:FA w w1 na A n c ea nb' B m d eb)(b:Below w1.heap.size w1 w2):FA w w2 na A n c ea nb' B m d eb:=by
 have:=h.sz
 exact⟨h.bel.trans (b.mono h.bel.size),h.ka.below b (by omega),h.kb.below b (by omega),Nat.le_trans h.sz b.size⟩
theorem FA.drew (h:FA w w1 na A n c ea nb' B m d eb):FA w w1.drew na A n c ea nb' B m d eb:=⟨h.bel.drew,h.ka,h.kb,h.sz⟩
theorem FA.six (h:FA w w1 na A n c ea nb' B m d eb):yh w w1 na A n c ea nb' B m d eb:=⟨h.ka.cell,h.kb.cell⟩
end
theorem FA.start (w:World)(na:Bool)(A:OA)(n c:Nat)(ea:Int)(nb':Bool)(B:OA)(m d:Nat)(eb:Int):
 FA w ((w.alloc (.cells #[.bool na,.slice A n c,.int .i64 ea] 24)).alloc (.cells #[.bool nb',.slice B m d,.int .i64 eb] 24)) na A n c ea nb' B m d eb:=by
 have bA:Below w.heap.size w (w.alloc (.cells #[.bool na,.slice A n c,.int .i64 ea] 24)):=(Below.refl _ w).alloc (Nat.le_refl _) _;have bB:=bA.alloc bA.size (.cells #[.bool nb',.slice B m d,.int .i64 eb] 24);have ka:=(cA.made w (.bool na) (.slice A n c) (.int .i64 ea)).below ((Below.refl (w.heap.size+1) _).alloc (by simp) (.cells #[.bool nb',.slice B m d,.int .i64 eb] 24)) (by simp);have kb:=cA.made (w.alloc (.cells #[.bool na,.slice A n c,.int .i64 ea] 24)) (.bool nb') (.slice B m d) (.int .i64 eb);rw[show(w.alloc (.cells #[.bool na,.slice A n c,.int .i64 ea] 24)).heap.size=w.heap.size+1 by simp]at kb;exact⟨bB,ka,kb,by simp⟩
theorem Eu {A:OA}{c:Nat}(neg:Bool)(e:Int)(w:World)(h:am w (.slice A n c) V)(hV:nb V<=16384)(he1:-262144<=e)(he2:e<=262144):
 Calls ou 121 #[aP neg A n c e] w (IP w (e+(nb V:Int))):=by
 obtain⟨A,n,c,f,hh,hs,hn,_,rfl⟩:=h.raw 256 (by omega);cases hh;exact vF neg A n c f e w hs (by omega) (by omega) (by omega)
theorem wR (na nb':Bool)(A B:OA)(n c m d Va Vb:Nat)(ea eb:Int)(w:World)(ha:am w (.slice A n c) Va)(hb:am w (.slice B m d) Vb)(hVa:nb Va<=16384)(hVb:nb Vb<=16384)
 (ea1:-262144<=ea) (ea2:ea<=262144) (eb1:-262144<=eb) (eb2:eb<=262144) (h0:(0 < Va/\0 < Vb)\/(Va=0/\Vb=0/\ea=0/\eb=0)) :
 Calls ou 68 #[aP na A n c ea,aP nb' B m d eb] w (IP w (dx Va Vb ea eb)):=by
 have S:=FA.start w na A n c ea nb' B m d eb;obtain⟨ta,hta⟩:∃ t:Int,Hid (t=ea+(nb Va:Int)):=⟨_,lY rfl⟩;obtain⟨tb,htb⟩:∃ t:Int,Hid (t=eb+(nb Vb:Int)):=⟨_,lY rfl⟩
 have TA:Hid (∀ w',Below w.heap.size w w'->Calls ou 121 #[.agg #[.bool na,.slice A n c,.int .i64 ea]] w' (IP w' ta)):=lY (fun w' h=>by
  rw[hta.out];exact Eu na ea w' (ha.below h) hVa ea1 ea2)
 have TB:Hid (∀ w',Below w.heap.size w w'->Calls ou 121 #[.agg #[.bool nb',.slice B m d,.int .i64 eb]] w' (IP w' tb)):=lY (fun w' h=>by
  rw[htb.out];exact Eu nb' eb w' (hb.below h) hVb eb1 eb2)
 have HLT:Hid (ta < tb->dx Va Vb ea eb=-1):=lY (fun h=>dn (qQ (by
  rcases h0 with h0 | h0
  . exact h0.2
  . obtain⟨rfl,rfl,rfl,rfl⟩:=h0;have:=hta.out;have:=htb.out;omega) (by rw[← hta.out,← htb.out];exact h)))
 have HGT:Hid (tb < ta->dx Va Vb ea eb=1):=lY (fun h=>cO (qQ (by
  rcases h0 with h0 | h0
  . exact h0.1
  . obtain⟨rfl,rfl,rfl,rfl⟩:=h0;have:=hta.out;have:=htb.out;omega) (by rw[← hta.out,← htb.out];exact h)))
 have HEQ:Hid (ta=tb->ea-eb<=16384/\eb-ea<=16384):=lY (fun h=>by have:=hta.out;have:=htb.out;omega)
 have hta':-300000<=ta/\ta<=300000:=by have:=hta.out;omega
 have htb':-300000<=tb/\tb<=300000:=by have:=htb.out;omega
 go_enter Tryz.func68,Tryz.ntmps68;go_wp2_with fail;generalize(w.alloc (.cells #[.bool na,.slice A n c,.int .i64 ea] 24)).alloc (.cells #[.bool nb',.slice B m d,.int .i64 eb] 24)=w1 at *;have SX:=S.drew.six;unfold yh at SX
 go_region_held3 (fun w'=>(w'.cell? ⟨w.heap.size,0,none⟩=some (.bool na)/\w'.cell? ⟨w.heap.size,1,none⟩=some (.slice A n c)/\w'.cell? ⟨w.heap.size,2,none⟩=some (.int .i64 ea)) /\
  (w'.cell? ⟨w.heap.size+1,0,none⟩=some (.bool nb')/\w'.cell? ⟨w.heap.size+1,1,none⟩=some (.slice B m d)/\w'.cell? ⟨w.heap.size+1,2,none⟩=some (.int .i64 eb)))
  (first | exact S3.six | exact S2.six | exact SX)
  (first
   | (go_at_call_of 121 (oM A n c);refine(TA.out _ S.drew.bel).mono ?_;rintro e' w2 ⟨rfl,b⟩;have S2:=S.drew.adv b;clear b)
   | (go_at_call_of 121 (oM B m d);refine(TB.out _ S2.bel).mono ?_;rintro e' w3 ⟨rfl,b⟩;have S3:=S2.adv b;clear b))
 clear S S2 SX
 by_cases ht:ta=tb
 . subst ht
   obtain⟨d1,d2⟩:=HEQ.out rfl
   have htt:(ta != ta)=false:=by simp
   obtain⟨cc0,cc1⟩:=S3.six;obtain⟨ca0,ca1,ca2⟩:=cc0;obtain⟨cb0,cb1,cb2⟩:=cc1
   by_cases hlt:ea < eb
   . obtain⟨k,hk⟩:∃ k:Nat,eb-ea=(k:Int):=⟨(eb-ea).toNat,by omega⟩
     have hw:IntKind.i64.wrap (eb-ea)=(k:Int):=by rw[aE (by omega) (by omega),hk]
     have HRES:Hid (cQ Va (Vb*2^k)=dx Va Vb ea eb):=lY (by
      unfold dx cF
      rw[show(ea-min ea eb).toNat=0 by omega,show(eb-min eb ea).toNat=k by omega,DE,DF])
     have SH:Hid (∀ w',Below w.heap.size w w'->Calls ou 123 #[.slice B m d,.int .i64 (k:Int)] w' (NP w' (Vb*2^k))):=lY (fun w' h=>oV w' (hb.below h) (by omega) (by omega))
     have hnb:Hid (nb (Vb*2^k)<=40000):=lY (by
      rcases mF Vb with h | h
      . rw[h,oY,aX];omega
      . rw[ch h];omega)
     clear hk;go_wp2_with fail
     go_region_held3 (fun w'=>(w'.cell? ⟨w.heap.size,1,none⟩=some (.slice A n c)/\w'.cell? ⟨w.heap.size,2,none⟩=some (.int .i64 ea)) /\
      (w'.cell? ⟨w.heap.size+1,1,none⟩=some (.slice B m d)/\w'.cell? ⟨w.heap.size+1,2,none⟩=some (.int .i64 eb)))
      (first | exact⟨S5.six.1.2,S5.six.2.2⟩ | exact⟨S4.six.1.2,S4.six.2.2⟩ | exact⟨⟨ca1,ca2⟩,⟨cb1,cb2⟩⟩)
      (first
       | (go_at_call 123;refine(SH.out _ S3.drew.bel).mono ?_;rintro e' w4 ⟨A4,p4,c4,rfl,n4,b⟩;have S4:=S3.drew.adv b;clear b)
       | (go_at_call 122;refine(Al w4 (ha.below S4.bel) n4 (by omega) (by have:=hnb.out;omega)).mono ?_;rintro e' w5 ⟨rfl,b⟩;have S5:=S4.adv b;clear b))
     all_goals (go_wp2_with fail)
     go_ret;exact⟨by rw[HRES.out];rfl,S5.bel⟩
   . obtain⟨k,hk⟩:∃ k:Nat,ea-eb=(k:Int):=⟨(ea-eb).toNat,by omega⟩
     have hw:IntKind.i64.wrap (ea-eb)=(k:Int):=by rw[aE (by omega) (by omega),hk]
     have HRES:Hid (cQ (Va*2^k) Vb=dx Va Vb ea eb):=lY (by
      unfold dx cF
      rw[show(eb-min eb ea).toNat=0 by omega,show(ea-min ea eb).toNat=k by omega,DE,DF])
     have SH:Hid (∀ w',Below w.heap.size w w'->Calls ou 123 #[.slice A n c,.int .i64 (k:Int)] w' (NP w' (Va*2^k))):=lY (fun w' h=>oV w' (ha.below h) (by omega) (by omega))
     have hnb:Hid (nb (Va*2^k)<=40000):=lY (by
      rcases mF Va with h | h
      . rw[h,oY,aX];omega
      . rw[ch h];omega)
     clear hk;go_wp2_with fail
     go_region_held3 (fun w'=>(w'.cell? ⟨w.heap.size,1,none⟩=some (.slice A n c)/\w'.cell? ⟨w.heap.size,2,none⟩=some (.int .i64 ea)) /\
      (w'.cell? ⟨w.heap.size+1,1,none⟩=some (.slice B m d)/\w'.cell? ⟨w.heap.size+1,2,none⟩=some (.int .i64 eb)))
      (first | exact⟨S5.six.1.2,S5.six.2.2⟩ | exact⟨S4.six.1.2,S4.six.2.2⟩ | exact⟨⟨ca1,ca2⟩,⟨cb1,cb2⟩⟩)
      (first
       | (go_at_call 123;refine(SH.out _ S3.drew.bel).mono ?_;rintro e' w4 ⟨A4,p4,c4,rfl,n4,b⟩;have S4:=S3.drew.adv b;clear b)
       | (go_at_call 122;refine(Al w4 n4 (hb.below S4.bel) (by have:=hnb.out;omega) (by omega)).mono ?_;rintro e' w5 ⟨rfl,b⟩;have S5:=S4.adv b;clear b))
     all_goals (go_wp2_with fail)
     go_ret;exact⟨by rw[HRES.out];rfl,S5.bel⟩
 . have htt:(ta != tb)=true:=by simpa using ht
   have HRES:Hid (jp ta tb=dx Va Vb ea eb):=lY (by
    unfold jp
    rcases Int.lt_or_gt_of_ne ht with h | h
    . rw[if_pos h,HLT.out h]
    . rw[if_neg (by omega),if_pos h,HGT.out h])
   have SX:=S3.drew.six;unfold yh at SX;go_wp2_with fail
   go_region_held3 (fun w'=>(w'.cell? ⟨w.heap.size,0,none⟩=some (.bool na)/\w'.cell? ⟨w.heap.size,1,none⟩=some (.slice A n c)/\w'.cell? ⟨w.heap.size,2,none⟩=some (.int .i64 ea)) /\
    (w'.cell? ⟨w.heap.size+1,0,none⟩=some (.bool nb')/\w'.cell? ⟨w.heap.size+1,1,none⟩=some (.slice B m d)/\w'.cell? ⟨w.heap.size+1,2,none⟩=some (.int .i64 eb)))
    (first | exact S5.six | exact S4.six | exact SX)
    (first
     | (go_at_call_of 121 (oM A n c);refine(TA.out _ S3.drew.bel).mono ?_;rintro e' w4 ⟨rfl,b⟩;have S4:=S3.drew.adv b;clear b)
     | (go_at_call_of 121 (oM B m d);refine(TB.out _ S4.bel).mono ?_;rintro e' w5 ⟨rfl,b⟩;have S5:=S4.adv b;clear b)
     | (go_at_call 67;refine(l8 ta tb w5).mono ?_;rintro e' w6 ⟨rfl,rfl⟩))
   all_goals (go_wp2_with fail)
   go_ret;exact⟨by rw[HRES.out];rfl,S5.bel⟩
theorem fN {e o:Int}(h:0 < V):0 < cF V e o:=Nat.mul_pos h (Bx _)
theorem fc (e o:Int):cF 0 e o=0:=oY _
theorem mg (Va Vb:Nat)(ea eb:Int):dx Va Vb ea eb=-1\/dx Va Vb ea eb=0\/dx Va Vb ea eb=1:=by
 unfold dx cQ
 split
 . exact .inl rfl
 . split
   . exact .inr (.inr rfl)
   . exact .inr (.inl rfl)
theorem DC {na nb':Bool}{m:Nat}(ha:0 < n ↔ 0 < Va)(hb:0 < m ↔ 0 < Vb)(za:n=0->na=false)(zb:m=0->nb'=false)(h:mj n na≠mj m nb'):jp (mj n na) (mj m nb')=fa na nb' Va Vb ea eb:=by
 unfold mj at *
 rcases mF n with hn | hn
 . obtain rfl:=za hn
   obtain rfl:Va=0:=by omega
   rcases mF m with hm | hm
   . simp[hn,hm]at h
   . have h1:0 < Vb:=by omega
     have h2:¬ m=0:=by omega
     cases nb'
     . have h3:dx 0 Vb ea eb=-1:=dn (by rw[fc];exact fN h1)
       simp[hn,h2,jp,fa,h3]
     . simp[hn,h2,jp,fa]
 . have h1:0 < Va:=by omega
   have h2:¬ n=0:=by omega
   rcases mF m with hm | hm
   . obtain rfl:=zb hm
     obtain rfl:Vb=0:=by omega
     cases na
     . have h3:dx Va 0 ea eb=1:=cO (by rw[fc];exact fN h1)
       simp[hm,h2,jp,fa,h3]
     . simp[hm,h2,jp,fa]
   . have h4:¬ m=0:=by omega
     cases na <;> cases nb' <;> simp[h2,h4,jp,fa]at h ⊢
theorem DD {na nb':Bool}{m:Nat}(ha:0 < n ↔ 0 < Va)(hb:0 < m ↔ 0 < Vb)(za:n=0->na=false/\ea=0)(zb:m=0->nb'=false/\eb=0)(h:mj n na=mj m nb'):
 mj n na*dx Va Vb ea eb=fa na nb' Va Vb ea eb/\((0 < Va/\0 < Vb)\/(Va=0/\Vb=0/\ea=0/\eb=0)):=by
 unfold mj at *
 rcases mF n with hn | hn
 . obtain⟨rfl,rfl⟩:=za hn
   obtain rfl:Va=0:=by omega
   rcases mF m with hm | hm
   . obtain⟨rfl,rfl⟩:=zb hm
     obtain rfl:Vb=0:=by omega
     refine⟨?_,.inr ⟨rfl,rfl,rfl,rfl⟩⟩
     have h3:dx 0 0 0 0=0:=by unfold dx;rw[fc,eA]
     simp[hn,fa,h3]
   . have h4:¬ m=0:=by omega
     cases nb' <;> simp[hn,h4]at h
 . have h1:0 < Va:=by omega
   have h2:¬ n=0:=by omega
   rcases mF m with hm | hm
   . cases na <;> simp[hm,h2]at h
   . have h4:¬ m=0:=by omega
     refine⟨?_,.inl ⟨h1,by omega⟩⟩
     cases na <;> cases nb' <;> simp[h2,h4,fa]at h ⊢
def vx (w:World)(z:Int)(ok:Bool)(e:Ending)(w':World):Prop:=e=.returned (.tuple #[.int .i64 z,.bool ok])/\Below w.heap.size w w'
theorem xV (na nb':Bool)(A B:OA)(n c m d:Nat)(x y:Nat->Nat)(ea eb:Int)(w:World)(ha:Sl w A n c x)(hb:Sl w B m d y)(hn:n<=70368744177664)(hm:m<=70368744177664):
 Calls ou 27 #[aP na A n c ea,aP nb' B m d eb] w
  (vx w (gh (aj na n x ea && aj nb' m y eb) na nb' (vs ai x n) (vs ai y m) ea eb) (aj na n x ea && aj nb' m y eb)):=by
 have S:=FA.start w na A n c ea nb' B m d eb;go_enter Tryz.func27,Tryz.ntmps27;go_wp2_with fail;generalize(w.alloc (.cells #[.bool na,.slice A n c,.int .i64 ea] 24)).alloc (.cells #[.bool nb',.slice B m d,.int .i64 eb] 24)=w1 at *;refine(kf na A n c x ea w1 (ha.below S.bel) hn).mono ?_;rintro e' w2 ⟨rfl,b⟩;have F2:=S.adv b;clear S b
 by_cases hpa:aj na n x ea=true
 . rw[hpa]
   obtain⟨cb0,cb1,cb2⟩:=F2.kb.cell;go_wp2_with fail;refine(kf nb' B m d y eb w2 (hb.below F2.bel) hm).mono ?_;rintro e' w3 ⟨rfl,b⟩;have F3':=F2.adv b;clear F2 b cb0 cb1 cb2
   by_cases hpb:aj nb' m y eb=true
   . rw[hpb]
     have PA:=aS hpa;have PB:=aS hpb;have ea1:=PA.e1;have ea2:=PA.e2;have eb1:=PB.e1;have eb2:=PB.e2;have ba:=PA.bits;have bb:=PB.bits;have NA:=PA.num ha;have NB:=PB.num hb;obtain⟨sa,hsa⟩:∃ s,Hid (mj n na=s):=⟨_,lY rfl⟩;obtain⟨sb,hsb⟩:∃ s,Hid (mj m nb'=s):=⟨_,lY rfl⟩
     have HNE:Hid (sa≠sb->jp sa sb=fa na nb' (vs ai x n) (vs ai y m) ea eb):=lY (fun h=>by
      rw[← hsa.out,← hsb.out]at h ⊢
      exact DC PA.pos PB.pos (fun h=>(PA.zero h).2) (fun h=>(PB.zero h).2) h)
     have HEQ:Hid (sa=sb->sa*dx (vs ai x n) (vs ai y m) ea eb=fa na nb' (vs ai x n) (vs ai y m) ea eb/\((0 < vs ai x n/\0 < vs ai y m)\/(vs ai x n=0/\vs ai y m=0/\ea=0/\eb=0))):=lY (fun h=>by
      rw[← hsa.out,← hsb.out]at h;rw[← hsa.out]
      exact DD PA.pos PB.pos (fun h=>(PA.zero h).symm) (fun h=>(PB.zero h).symm) h)
     have HYES:=lY (show gh (aj na n x ea && aj nb' m y eb) na nb' (vs ai x n) (vs ai y m) ea eb=fa na nb' (vs ai x n) (vs ai y m) ea eb by rw[hpa,hpb];rfl);have HOK:=lY (show(aj na n x ea && aj nb' m y eb)=true by rw[hpa,hpb];rfl)
     have hs1:-1<=sa/\sa<=1:=by
      rw[← hsa.out];unfold mj
      split
      . omega
      . split <;> omega
     have SA:Hid (∀ w',Calls ou 66 #[.agg #[.bool na,.slice A n c,.int .i64 ea]] w' (IP w' sa)):=lY (fun w'=>by
      rw[← hsa.out];exact lH na A n c ea w' (by omega))
     have SB:Hid (∀ w',Calls ou 66 #[.agg #[.bool nb',.slice B m d,.int .i64 eb]] w' (IP w' sb)):=lY (fun w'=>by
      rw[← hsb.out];exact lH nb' B m d eb w' (by omega))
     clear hpa hpb PA PB hsa hsb;generalize vs ai x n=Va at *;generalize vs ai y m=Vb at *;have SX:=F3'.drew.six;unfold yh at SX;go_wp2_with fail
     go_region_held3 (fun w'=>(w'.cell? ⟨w.heap.size,0,none⟩=some (.bool na)/\w'.cell? ⟨w.heap.size,1,none⟩=some (.slice A n c)/\w'.cell? ⟨w.heap.size,2,none⟩=some (.int .i64 ea)) /\
      (w'.cell? ⟨w.heap.size+1,0,none⟩=some (.bool nb')/\w'.cell? ⟨w.heap.size+1,1,none⟩=some (.slice B m d)/\w'.cell? ⟨w.heap.size+1,2,none⟩=some (.int .i64 eb)))
      (first | exact S5.six | exact S4.six | exact SX)
      (first
       | (go_at_call_of 66 (oM A n c);refine(SA.out _).mono ?_;rintro e' w4 ⟨rfl,b⟩;have S4:=F3'.drew.adv b;clear b)
       | (go_at_call_of 66 (oM B m d);refine(SB.out _).mono ?_;rintro e' w5 ⟨rfl,b⟩;have S5:=S4.adv b;clear b))
     clear F3' S4 SX;have SX:=S5.drew.six;unfold yh at SX
     by_cases hs:sa=sb
     . obtain⟨hm1,hcase⟩:=HEQ.out hs
       subst hs
       have hss:(sa != sa)=false:=by simp
       have hrg:=mg Va Vb ea eb
       have SZ:Hid (∀ w',Below w.heap.size w w'->Calls ou 68 #[.agg #[.bool na,.slice A n c,.int .i64 ea],.agg #[.bool nb',.slice B m d,.int .i64 eb]] w' (IP w' (dx Va Vb ea eb))):=lY (fun w' h =>
        wR na nb' A B n c m d Va Vb ea eb w' (NA.below h) (NB.below h) ba bb ea1 ea2 eb1 eb2 hcase)
       have HM:=lY hm1;clear hm1 hcase HEQ HNE;generalize dx Va Vb ea eb=cs at *;generalize fa na nb' Va Vb ea eb=r at *
       have hr:IntKind.i64.wrap (sa*cs)=r:=by
        rw[← HM.out]
        have h3:-1<=sa*cs/\sa*cs<=1:=by
         rcases hrg with h | h | h <;> rw[h] <;> omega
        exact aE (by omega) (by omega)
       clear hrg;go_wp2_with fail
       go_region_held3 (fun w'=>(w'.cell? ⟨w.heap.size,0,none⟩=some (.bool na)/\w'.cell? ⟨w.heap.size,1,none⟩=some (.slice A n c)/\w'.cell? ⟨w.heap.size,2,none⟩=some (.int .i64 ea)) /\
        (w'.cell? ⟨w.heap.size+1,0,none⟩=some (.bool nb')/\w'.cell? ⟨w.heap.size+1,1,none⟩=some (.slice B m d)/\w'.cell? ⟨w.heap.size+1,2,none⟩=some (.int .i64 eb)))
        (first | exact S7.six | exact S6.six | exact SX)
        (first
         | (go_at_call_of 66 (oM A n c);refine(SA.out _).mono ?_;rintro e' w6 ⟨rfl,b⟩;have S6:=S5.drew.adv b;clear b)
         | (go_at_call 68;refine(SZ.out _ S6.bel).mono ?_;rintro e' w7 ⟨rfl,b⟩;have S7:=S6.adv b;clear b))
       all_goals (go_wp2_with fail)
       go_ret2
       exact⟨by rw[HYES.out,HOK.out];rfl,S7.bel⟩
     . have hss:(sa != sb)=true:=by simpa using hs
       have HM:=lY (HNE.out hs);clear HEQ HNE;generalize fa na nb' Va Vb ea eb=r at *;go_wp2_with fail
       go_region_held3 (fun w'=>(w'.cell? ⟨w.heap.size,0,none⟩=some (.bool na)/\w'.cell? ⟨w.heap.size,1,none⟩=some (.slice A n c)/\w'.cell? ⟨w.heap.size,2,none⟩=some (.int .i64 ea)) /\
        (w'.cell? ⟨w.heap.size+1,0,none⟩=some (.bool nb')/\w'.cell? ⟨w.heap.size+1,1,none⟩=some (.slice B m d)/\w'.cell? ⟨w.heap.size+1,2,none⟩=some (.int .i64 eb)))
        (first | exact S7.six | exact S6.six | exact SX)
        (first
         | (go_at_call_of 66 (oM A n c);refine(SA.out _).mono ?_;rintro e' w6 ⟨rfl,b⟩;have S6:=S5.drew.adv b;clear b)
         | (go_at_call_of 66 (oM B m d);refine(SB.out _).mono ?_;rintro e' w7 ⟨rfl,b⟩;have S7:=S6.adv b;clear b)
         | (go_at_call 67;refine(l8 sa sb w7).mono ?_;rintro e' w8 ⟨rfl,rfl⟩))
       all_goals (go_wp2_with fail)
       go_ret2
       exact⟨by rw[HYES.out,HOK.out,HM.out];rfl,S7.bel⟩
   . have hpb':aj nb' m y eb=false:=by simpa using hpb
     have HNO:=lY (show(aj na n x ea && aj nb' m y eb)=false by rw[hpb'];simp);have B3:=F3'.bel;rw[hpb'];go_wp2_with fail
     go_ret2
     exact⟨by rw[HNO.out];rfl,B3⟩
 . have hpa':aj na n x ea=false:=by simpa using hpa
   have HNO:=lY (show(aj na n x ea && aj nb' m y eb)=false by rw[hpa'];simp);have B3:=F2.bel;rw[hpa'];go_wp2_with fail
   go_ret2
   exact⟨by rw[HNO.out];rfl,B3⟩
theorem oC (na nb':Bool)(A B:OA)(n c m d:Nat)(x y:Nat->Nat)(ea eb:Int)(w:World)(ha:Sl w A n c x)(hb:Sl w B m d y)(hn:n<=400000)(hm:m<=400000):
 Calls ou 27 #[aP na A n c ea,aP nb' B m d eb] w
  (vx w (gh (aj na n x ea && aj nb' m y eb) na nb' (vs ai x n) (vs ai y m) ea eb) (aj na n x ea && aj nb' m y eb)):=xV na nb' A B n c m d x y ea eb w ha hb (by omega) (by omega)
def dS (Va Vb:Nat)(ea eb:Int):Nat:=if Va=0 then 0 else if Vb=0 then Va else cF Va ea eb
def dV (Va Vb:Nat)(ea eb:Int):Nat:=if Va=0 then Vb else if Vb=0 then 0 else cF Vb eb ea
def eH (Va Vb:Nat)(ea eb:Int):Int:=if Va=0 then eb else if Vb=0 then ea else min ea eb
def Ea (w:World)(Va Vb:Nat)(ea eb:Int)(e:Ending)(w':World):Prop :=
 ∃ A p c B q d,e=.returned (.tuple #[.slice A p c,.slice B q d,.int .i64 (eH Va Vb ea eb)])/\am w' (.slice A p c) (dS Va Vb ea eb)/\am w' (.slice B q d) (dV Va Vb ea eb)/\Below w.heap.size w w'
theorem am.empty {w:World}{A:OA}{c:Nat}(h:am w (.slice A n c) V):n=0 ↔ V=0:=by
 obtain⟨_,_,_,f,hh,_,hc,rfl⟩:=h;cases hh
 constructor
 . intro h;subst h;exact aL _ _
 . intro h;exact rr hc h
theorem px (na nb':Bool)(A B:OA)(n c m d Va Vb:Nat)(ea eb:Int)(w:World)(ha:am w (.slice A n c) Va)(hb:am w (.slice B m d) Vb)(hVa:nb Va<=1000000)(hVb:nb Vb<=1000000)
 (ea1:-400000<=ea) (ea2:ea<=600000) (eb1:-400000<=eb) (eb2:eb<=600000) :
 Calls ou 63 #[aP na A n c ea,aP nb' B m d eb] w (Ea w Va Vb ea eb):=by
 have S:=FA.start w na A n c ea nb' B m d eb;have za:=ha.empty;have zb:=hb.empty;have ln:=ha.len 20000 (by omega);have lm:=hb.len 20000 (by omega);obtain⟨w1,hw1⟩:∃ w1,Hid (w1=(w.alloc (.cells #[.bool na,.slice A n c,.int .i64 ea] 24)).alloc (.cells #[.bool nb',.slice B m d,.int .i64 eb] 24)):=⟨_,lY rfl⟩;rw[← hw1.out]at S;obtain⟨ca0,ca1,ca2⟩:=S.ka.cell;obtain⟨cb0,cb1,cb2⟩:=S.kb.cell
 by_cases hn:n=0
 . have BD:∀ k,Below w.heap.size w (w1.drewN k):=fun k=>cu S.bel k
   have hVa0:=za.1 hn;subst hVa0;subst hn;clear za zb;have HE:Hid (eH 0 Vb ea eb=eb):=lY (by simp[eH]);have HX:Hid (dS 0 Vb ea eb=0):=lY (by simp[dS]);have HY:Hid (dV 0 Vb ea eb=Vb):=lY (by simp[dV]);go_enter Bl,tz;have hw1':=hw1.out;subst hw1';go_wp2_with fail
   go_quiet (fail)
   all_goals (go_wp2_with fail)
   go_ret3
   exact⟨none,0,0,B,m,d,by rw[HE.out];rfl,by rw[HX.out];exact aq _,by rw[HY.out];exact hb.below (BD _),BD _⟩
 . have hVa0:Va≠0:=fun h=>hn (za.2 h)
   have hn':((n:Int) == 0)=false:=by simp;omega
   by_cases hm:m=0
   . have BD:∀ k,Below w.heap.size w (w1.drewN k):=fun k=>cu S.bel k
     have hVb0:=zb.1 hm;subst hVb0;subst hm;clear za zb;have HE:Hid (eH Va 0 ea eb=ea):=lY (by simp[eH,hVa0]);have HX:Hid (dS Va 0 ea eb=Va):=lY (by simp[dS,hVa0]);have HY:Hid (dV Va 0 ea eb=0):=lY (by simp[dV,hVa0]);go_enter Bl,tz;have hw1':=hw1.out;subst hw1';go_wp2_with fail
     go_quiet (fail)
     all_goals (go_wp2_with fail)
     go_ret3
     exact⟨A,n,c,none,0,0,by rw[HE.out];rfl,by rw[HX.out];exact ha.below (BD _),by rw[HY.out];exact aq _,BD _⟩
   . have hVb0:Vb≠0:=fun h=>hm (zb.2 h)
     have hm':((m:Int) == 0)=false:=by simp;omega
     have HE:Hid (eH Va Vb ea eb=min ea eb):=lY (by simp[eH,hVa0,hVb0]);have HX:Hid (dS Va Vb ea eb=cF Va ea eb):=lY (by simp[dS,hVa0,hVb0]);have HY:Hid (dV Va Vb ea eb=cF Vb eb ea):=lY (by simp[dV,hVa0,hVb0]);obtain⟨g,hg⟩:∃ g:Int,Hid (min ea eb=g):=⟨_,lY rfl⟩
     have hg1:g<=ea/\g<=eb/\-400000<=g:=by have:=hg.out;omega
     have hgm:min ea eb=g:=hg.out;obtain⟨i,hi⟩:∃ i:Nat,ea-g=(i:Int):=⟨(ea-g).toNat,by omega⟩;obtain⟨j,hj⟩:∃ j:Nat,eb-g=(j:Int):=⟨(eb-g).toNat,by omega⟩
     have hwi:IntKind.i64.wrap (ea-g)=(i:Int):=by rw[aE (by omega) (by omega),hi]
     have hwj:IntKind.i64.wrap (eb-g)=(j:Int):=by rw[aE (by omega) (by omega),hj]
     have hi6:i<=1048576:=by omega
     have hj6:j<=1048576:=by omega
     have HXi:Hid (cF Va ea eb=Va*2^i):=lY (by unfold cF;rw[show(ea-min ea eb).toNat=i by omega]);have HYj:Hid (cF Vb eb ea=Vb*2^j):=lY (by unfold cF;rw[show(eb-min eb ea).toNat=j by omega]);have SHA:Hid (∀ w',Below w.heap.size w w'->Calls ou 114 #[.slice A n c,.int .i64 (i:Int)] w' (NP w' (Va*2^i))):=lY (fun w' h=>vW w' (ha.below h) (by omega) hi6);have SHB:Hid (∀ w',Below w.heap.size w w'->Calls ou 114 #[.slice B m d,.int .i64 (j:Int)] w' (NP w' (Vb*2^j))):=lY (fun w' h=>vW w' (hb.below h) (by omega) hj6);clear hi hj;go_enter Bl,tz;have hw1':=hw1.out;subst hw1';go_wp2_with fail
     go_region_held3 (fun w'=>(w'.cell? ⟨w.heap.size,1,none⟩=some (.slice A n c)/\w'.cell? ⟨w.heap.size,2,none⟩=some (.int .i64 ea)) /\
      (w'.cell? ⟨w.heap.size+1,1,none⟩=some (.slice B m d)/\w'.cell? ⟨w.heap.size+1,2,none⟩=some (.int .i64 eb)))
      (first | exact⟨S5.six.1.2,S5.six.2.2⟩ | exact⟨S4.six.1.2,S4.six.2.2⟩ | exact⟨⟨ca1,ca2⟩,⟨cb1,cb2⟩⟩)
      (first
       | (go_at_call_of 114 (oM A n c);refine(SHA.out _ S.drew.bel).mono ?_;rintro e' w4 ⟨A4,p4,c4,rfl,n4,b⟩;have S4:=S.drew.adv b;clear b)
       | (go_at_call_of 114 (oM B m d);refine(SHB.out _ S4.bel).mono ?_;rintro e' w5 ⟨A5,p5,c5,rfl,n5,b⟩;have S5:=S4.adv b;have n45:=n4.below b;clear b))
     all_goals (go_wp2_with fail)
     go_ret3
     exact⟨A4,p4,c4,A5,p5,c5,by rw[HE.out,hgm];rfl,by rw[HX.out,HXi.out];exact n45,by rw[HY.out,HYj.out];exact n5,S5.bel⟩
theorem uv (Va Vb:Nat)(ea eb:Int):cQ (dS Va Vb ea eb) (dV Va Vb ea eb)=dx Va Vb ea eb:=by
 unfold dx dS dV
 rcases mF Va with ha | ha
 . subst ha
   rw[if_pos rfl,if_pos rfl,fc]
   rcases mF Vb with hb | hb
   . subst hb;rw[fc]
   . rw[dn hb,dn (fN hb)]
 . have h0:¬ Va=0:=by omega
   rcases mF Vb with hb | hb
   . subst hb;simp only[h0,if_false,if_true,fc,cO ha,cO (fN (e:=ea) (o:=eb) ha)]
   . have h1:¬ Vb=0:=by omega
     simp only[h0,h1,if_false]
theorem py (Va Vb:Nat)(ea eb:Int){K D:Nat}(ha:nb Va<=K)(hb:nb Vb<=K)(h1:ea-eb<=D)(h2:eb-ea<=D):nb (dS Va Vb ea eb)<=K+D/\nb (dV Va Vb ea eb)<=K+D:=by
 have hm:∀ (V z:Nat),nb (V*2^z)<=nb V+z:=fun V z=>by
  rcases mF V with h | h
  . subst h;rw[oY,aX];omega
  . rw[ch h];omega
 unfold dS dV cF;have e1:=hm Va (ea-min ea eb).toNat;have e2:=hm Vb (eb-min eb ea).toNat
 constructor
 . split
   . rw[aX];omega
   . split <;> omega
 . split
   . omega
   . split
     . rw[aX];omega
     . omega
theorem lP (na nb':Bool)(A B:OA)(n c m d:Nat)(x y:Nat->Nat)(ea eb:Int)(w:World)(ha:Sl w A n c x)(hb:Sl w B m d y)(hn:n<=400000)(hm:m<=400000):
 Calls ou 25 #[aP na A n c ea,aP nb' B m d eb] w
  (vx w (gh (aj na n x ea && aj nb' m y eb) na nb' (vs ai x n) (vs ai y m) ea eb) (aj na n x ea && aj nb' m y eb)):=by
 have S:=FA.start w na A n c ea nb' B m d eb;go_enter Tryz.func25,Tryz.ntmps25;go_wp2_with fail;generalize(w.alloc (.cells #[.bool na,.slice A n c,.int .i64 ea] 24)).alloc (.cells #[.bool nb',.slice B m d,.int .i64 eb] 24)=w1 at *;refine(dr na A n c x ea w1 (ha.below S.bel) hn).mono ?_;rintro e' w2 ⟨rfl,b⟩;have F2:=S.adv b;clear S b
 by_cases hpa:aj na n x ea=true
 . rw[hpa]
   obtain⟨cb0,cb1,cb2⟩:=F2.kb.cell;go_wp2_with fail;refine(dr nb' B m d y eb w2 (hb.below F2.bel) hm).mono ?_;rintro e' w3 ⟨rfl,b⟩;have F3':=F2.adv b;clear F2 b cb0 cb1 cb2;obtain⟨ca0,ca1,ca2⟩:=F3'.ka.cell;obtain⟨cb0,cb1,cb2⟩:=F3'.kb.cell
   by_cases hpb:aj nb' m y eb=true
   . rw[hpb]
     have PA:=aS hpa;have PB:=aS hpb;have ea1:=PA.e1;have ea2:=PA.e2;have eb1:=PB.e1;have eb2:=PB.e2;have ba:=PA.bits;have bb:=PB.bits;have NA:=PA.num (ha.below F3'.bel);have NB:=PB.num (hb.below F3'.bel);have HYES:=lY (show gh (aj na n x ea && aj nb' m y eb) na nb' (vs ai x n) (vs ai y m) ea eb=fa na nb' (vs ai x n) (vs ai y m) ea eb by rw[hpa,hpb];rfl);have HOK:=lY (show(aj na n x ea && aj nb' m y eb)=true by rw[hpa,hpb];rfl);clear hpa hpb PA PB;generalize vs ai x n=Va at *;generalize vs ai y m=Vb at *
     by_cases hs:na=nb'
     . subst hs
       have hss:(na != na)=false:=by simp
       have SD:=lY (px na na A B n c m d Va Vb ea eb w3 NA NB (by omega) (by omega) (by omega) (by omega) (by omega) (by omega));have HB:=lY (py Va Vb ea eb (K:=16384) (D:=524288) ba bb (by omega) (by omega));have HR:Hid (fa na na Va Vb ea eb=if na then-dx Va Vb ea eb else dx Va Vb ea eb):=lY (by simp[fa]);have hrg:=mg Va Vb ea eb;have HSZ:=lY (uv Va Vb ea eb);go_wp2_with fail;refine SD.out.mono ?_;rintro e' w4 ⟨A4,p4,c4,A5,p5,c5,rfl,n4,n5,b⟩;have F4:=F3'.adv b;clear F3' b SD NA NB ca0 ca1 ca2 cb0 cb1 cb2;have CM:=lY (uG w4 n4 n5 (by have:=HB.out.1;omega) (by have:=HB.out.2;omega));rw[HSZ.out]at CM;generalize dx Va Vb ea eb=cs at *;generalize eH Va Vb ea eb=se at *;go_wp2_with fail;refine CM.out.mono ?_;rintro e' w5 ⟨rfl,b⟩;have F5:=F4.adv b;clear F4 b CM;obtain⟨ca0,ca1,ca2⟩:=F5.ka.cell
       have hcs:-1<=cs/\cs<=1:=by omega
       cases na
       . go_wp2_with fail
         go_ret2
         exact⟨by rw[HYES.out,HOK.out,HR.out];rfl,F5.bel⟩
       . go_wp2_with fail
         go_ret2
         exact⟨by rw[HYES.out,HOK.out,HR.out];rfl,F5.bel⟩
     . have hss:(na != nb')=true:=by simpa using hs
       have B3:=F3'.bel;cases na
       . obtain rfl:nb'=true:=by cases nb' <;> simp at hs ⊢
         go_wp2_with fail
         go_ret2
         exact⟨by rw[HYES.out,HOK.out];rfl,B3⟩
       . obtain rfl:nb'=false:=by cases nb' <;> simp at hs ⊢
         go_wp2_with fail
         go_ret2
         exact⟨by rw[HYES.out,HOK.out];rfl,B3⟩
   . have hpb':aj nb' m y eb=false:=by simpa using hpb
     have HNO:=lY (show(aj na n x ea && aj nb' m y eb)=false by rw[hpb'];simp);have B3:=F3'.bel;rw[hpb'];go_wp2_with fail
     go_ret2
     exact⟨by rw[HNO.out];rfl,B3⟩
 . have hpa':aj na n x ea=false:=by simpa using hpa
   have HNO:=lY (show(aj na n x ea && aj nb' m y eb)=false by rw[hpa'];simp);have B3:=F2.bel;rw[hpa'];go_wp2_with fail
   go_ret2
   exact⟨by rw[HNO.out];rfl,B3⟩
end Go.Proofs.YtmbmohibpkepdaaGreatDoor
