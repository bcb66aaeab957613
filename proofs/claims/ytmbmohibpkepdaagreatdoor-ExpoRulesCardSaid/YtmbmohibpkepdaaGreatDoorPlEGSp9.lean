/-
 span's sum of two dyads, with all its bits.
 volvelleref02's Both.
 Add of both.
 Sub of both.
-/
import Derived.Test.YtmbmohibpkepdaaGreatDoorPlEGNumbers
import Derived.Test.YtmbmohibpkepdaaGreatDoorPlEGDy10
import Derived.Test.YtmbmohibpkepdaaGreatDoorPlEGDy13
import Derived.Test.YtmbmohibpkepdaaGreatDoorPlEGSp3
import Derived.Test.YtmbmohibpkepdaaGreatDoorPlEGSp4
namespace Go.Proofs.YtmbmohibpkepdaaGreatDoor
open Go.RowKit
def sumN (r s:DR):DR :=
 if r.m=0 then s else if s.m=0 then r else
  if r.neg=s.neg then ⟨true,r.neg,onE r.m r.e s.e+onE s.m s.e r.e,min r.e s.e⟩ else
   if onE s.m s.e r.e≤onE r.m r.e s.e then ⟨true,r.neg,onE r.m r.e s.e-onE s.m s.e r.e,min r.e s.e⟩ else ⟨true,s.neg,onE s.m s.e r.e-onE r.m r.e s.e,min r.e s.e⟩
theorem onE_bits {V:Nat} {e o:Int} (h:nb V≤16384) (h1:-262144≤e) (h2:e≤262144) (h3:-262144≤o) (h4:o≤262144):nb (onE V e o)≤540672:=by
 unfold onE
 rcases Nat.eq_zero_or_pos V with h0 | h0
 · subst h0;rw [Nat.zero_mul,nb_zero];omega
 · rw [nb_mul_pow h0];omega
structure WideB (r:DR):Prop where
 bits:nb r.m≤600000
 e1:-300000≤r.e
 e2:r.e≤300000
theorem sumN_wide {r s:DR} (h1:PlainR r) (h2:PlainR s):WideB (sumN r s):=by
 have b1:=onE_bits h1.bits h1.e1 h1.e2 h2.e1 h2.e2
 have b2:=onE_bits h2.bits h2.e1 h2.e2 h1.e1 h1.e2
 have:=h1.bits
 have:=h2.bits
 have:=h1.e1
 have:=h1.e2
 have:=h2.e1
 have:=h2.e2
 unfold sumN
 by_cases h0:r.m=0
 · rw [if_pos h0];exact ⟨by omega,by omega,by omega⟩
 · rw [if_neg h0]
   by_cases h0':s.m=0
   · rw [if_pos h0'];exact ⟨by omega,by omega,by omega⟩
   · rw [if_neg h0']
     by_cases hn:r.neg=s.neg
     · rw [if_pos hn];exact ⟨by have:=nb_add b1 b2;simp only;omega,by simp only;omega,by simp only;omega⟩
     · rw [if_neg hn]
       by_cases hle:onE s.m s.e r.e≤onE r.m r.e s.e
       · rw [if_pos hle];exact ⟨by have:=nb_mono (Nat.sub_le (onE r.m r.e s.e) (onE s.m s.e r.e));simp only;omega,by simp only;omega,by simp only;omega⟩
       · rw [if_neg hle];exact ⟨by have:=nb_mono (Nat.sub_le (onE s.m s.e r.e) (onE r.m r.e s.e));simp only;omega,by simp only;omega,by simp only;omega⟩
def KL (w:World):List (TypeId×Nat×Array Value)→Prop
 | []=>True
 | (T,a,cs) :: r=>KC T w a cs∧KL w r
theorem KL.adv {w w':World} (b:Below w.heap.size w w'):∀ {ks:List (TypeId×Nat×Array Value)},KL w ks→KL w' ks
 | [],_=>trivial
 | (_,_,_) :: _,h=>⟨h.1.adv b,KL.adv b h.2⟩
structure Pu (w wi:World) (ks:List (TypeId×Nat×Array Value)) (ns:List (Value×Nat)):Prop where
 bel:Below w.heap.size w wi
 ks:KL wi ks
 ns:NS wi ns
section
variable {w wi wj:World} {ks:List (TypeId×Nat×Array Value)} {ns:List (Value×Nat)}
theorem Pu.below (h:Pu w wi ks ns) (b:Below wi.heap.size wi wj):Pu w wj ks ns:=⟨below_step h.bel b,h.ks.adv b,h.ns.adv b⟩
theorem Pu.drew (h:Pu w wi ks ns):Pu w wi.drew ks ns:=h.below (Below.refl _ wi).drew
theorem Pu.num (h:Pu w wi ks ns) {v:Value} {V:Nat} (n:Num wi v V):Pu w wi ks ((v,V) :: ns):=⟨h.bel,h.ks,n,h.ns⟩
theorem Pu.alloc (h:Pu w wi ks ns) (T:TypeId) (cs:Array Value):Pu w (wi.alloc (.cells cs T)) ((T,wi.heap.size,cs) :: ks) ns :=
 ⟨below_step h.bel (alloc_bel wi _),⟨KC.made T wi cs,h.ks.adv (alloc_bel wi _)⟩,h.ns.adv (alloc_bel wi _)⟩
end
theorem Pu.give {w wi:World} {ks:List (TypeId×Nat×Array Value)} {ns:List (Value×Nat)} (h:Pu w wi ks ns) {T:TypeId} {gr:Nat} (k:KC T wi gr zd) (hg:w.heap.size≤gr) {v:Value} {V:Nat} (n:Num wi v V) (x y z:Value) :
 Num (put3 wi gr x y z) v V∧Below w.heap.size w (put3 wi gr x y z):=⟨num_put3 n k x y z,below_only h.bel (only_put3 _ _ _ _ _) hg⟩
set_option maxRecDepth 8000 in
set_option maxHeartbeats 4000000 in
theorem sum_any3 {r s:DR} {A B:Option Addr} {n c m d:Nat} (w:World) (ha:Num w (.slice A n c) r.m) (hb:Num w (.slice B m d) s.m) (hr:PlainR r) (hs:PlainR s) :
 Calls Tryz.prog 81 #[dyv r.neg A n c r.e,dyv s.neg B m d s.e] w (DOne w (sumN r s)):=by
 have hbl:=Below.refl w.heap.size w
 have P:Pu w (((w.alloc (cd3 (.bool r.neg) (.slice A n c) (.int .i64 r.e))).alloc (cd3 (.bool s.neg) (.slice B m d) (.int .i64 s.e))).alloc (.cells zd 78)) [(78,w.heap.size+1+1,zd),(24,w.heap.size+1,#[.bool s.neg,.slice B m d,.int .i64 s.e]),(24,w.heap.size,#[.bool r.neg,.slice A n c,.int .i64 r.e])] []:=by
  have h:=((Pu.alloc (⟨hbl,trivial,trivial⟩:Pu w w [] []) 24 #[.bool r.neg,.slice A n c,.int .i64 r.e]).alloc 24 #[.bool s.neg,.slice B m d,.int .i64 s.e]).alloc 78 zd
  rw [show ((w.alloc (.cells #[.bool r.neg,.slice A n c,.int .i64 r.e] 24)).alloc (.cells #[.bool s.neg,.slice B m d,.int .i64 s.e] 24)).heap.size=w.heap.size+1+1 by simp,show (w.alloc (.cells #[.bool r.neg,.slice A n c,.int .i64 r.e] 24)).heap.size=w.heap.size+1 by simp] at h
  exact h
 have hA:=ha.empty
 have hB:=hb.empty
 clear hbl
 by_cases h0:n=0
 · subst h0
   have HT:Hid (sumN r s=s):=Lib.hid (by unfold sumN;rw [if_pos (hA.1 rfl)])
   have ka0:=P.ks.2.2.1.at_ 0 _ rfl
   have ka1:=P.ks.2.2.1.at_ 1 _ rfl
   have ka2:=P.ks.2.2.1.at_ 2 _ rfl
   have kal:=P.ks.2.2.1.2
   have kb0:=P.ks.2.1.at_ 0 _ rfl
   have kb1:=P.ks.2.1.at_ 1 _ rfl
   have kb2:=P.ks.2.1.at_ 2 _ rfl
   have kbl:=P.ks.2.1.2
   go_enter Tryz.func81,Tryz.ntmps81
   go_upto_region 2 with fail
   generalize ((w.alloc (cd3 (.bool r.neg) (.slice A 0 c) (.int .i64 r.e))).alloc (cd3 (.bool s.neg) (.slice B m d) (.int .i64 s.e))).alloc (.cells zd 78)=w1 at *
   have kR:=P.ks.1
   have q0:=kR.at_ 0 _ rfl
   have q1:=kR.at_ 1 _ rfl
   have q2:=kR.at_ 2 _ rfl
   have qf0:=kR.fr 0
   have qf1:=kR.fr 1
   have qf2:=kR.fr 2
   go_wp2_with fail
   rw [HT.out]
   obtain ⟨hn9,hb9⟩:=P.give kR (by omega) (hb.below P.bel) (.bool s.neg) (.slice B m d) (.int .i64 s.e)
   exact bodyPost_ret (v:=.agg #[.bool s.neg,.slice B m d,.int .i64 s.e]) (by simp [results,Tryz.results81,go_sem,q0,q1,q2]) rfl ⟨B,m,d,rfl,hn9,hb9⟩
 have h0b:((n:Int) == 0)=false:=by simp;omega
 have h0c:¬ r.m=0:=fun h=>h0 (hA.2 h)
 by_cases h1:m=0
 · subst h1
   have HT:Hid (sumN r s=r):=Lib.hid (by unfold sumN;rw [if_neg h0c,if_pos (hB.1 rfl)])
   clear h0c
   have ka0:=P.ks.2.2.1.at_ 0 _ rfl
   have ka1:=P.ks.2.2.1.at_ 1 _ rfl
   have ka2:=P.ks.2.2.1.at_ 2 _ rfl
   have kal:=P.ks.2.2.1.2
   have kb0:=P.ks.2.1.at_ 0 _ rfl
   have kb1:=P.ks.2.1.at_ 1 _ rfl
   have kb2:=P.ks.2.1.at_ 2 _ rfl
   have kbl:=P.ks.2.1.2
   go_enter Tryz.func81,Tryz.ntmps81
   go_upto_region 4 with fail
   generalize ((w.alloc (cd3 (.bool r.neg) (.slice A n c) (.int .i64 r.e))).alloc (cd3 (.bool s.neg) (.slice B 0 d) (.int .i64 s.e))).alloc (.cells zd 78)=w1 at *
   have kR:=P.ks.1
   have q0:=kR.at_ 0 _ rfl
   have q1:=kR.at_ 1 _ rfl
   have q2:=kR.at_ 2 _ rfl
   have qf0:=kR.fr 0
   have qf1:=kR.fr 1
   have qf2:=kR.fr 2
   go_wp2_with fail
   rw [HT.out]
   obtain ⟨hn9,hb9⟩:=P.give kR (by omega) (ha.below P.bel) (.bool r.neg) (.slice A n c) (.int .i64 r.e)
   exact bodyPost_ret (v:=.agg #[.bool r.neg,.slice A n c,.int .i64 r.e]) (by simp [results,Tryz.results81,go_sem,q0,q1,q2]) rfl ⟨A,n,c,rfl,hn9,hb9⟩
 have h1b:((m:Int) == 0)=false:=by simp;omega
 have h1c:¬ s.m=0:=fun h=>h1 (hB.2 h)
 have re1:=hr.e1
 have re2:=hr.e2
 have se1:=hs.e1
 have se2:=hs.e2
 have rb:=hr.bits
 have sb:=hs.bits
 obtain ⟨E,hE⟩:∃ E,min r.e s.e=E:=⟨_,rfl⟩
 obtain ⟨j,hj⟩:∃ j:Nat,r.e-E=(j:Int):=⟨(r.e-E).toNat,by omega⟩
 obtain ⟨k,hk⟩:∃ k:Nat,s.e-E=(k:Int):=⟨(s.e-E).toNat,by omega⟩
 have hX:r.m*2^j=onE r.m r.e s.e:=by unfold onE;rw [hE,hj,Int.toNat_natCast]
 have hY:s.m*2^k=onE s.m s.e r.e:=by unfold onE;rw [show min s.e r.e=E by omega,hk,Int.toNat_natCast]
 have bX:=onE_bits hr.bits re1 re2 se1 se2
 have bY:=onE_bits hs.bits se1 se2 re1 re2
 have HS:Hid (sumN r s=if r.neg=s.neg then ⟨true,r.neg,onE r.m r.e s.e+onE s.m s.e r.e,E⟩ else if onE s.m s.e r.e≤onE r.m r.e s.e then ⟨true,r.neg,onE r.m r.e s.e-onE s.m s.e r.e,E⟩ else ⟨true,s.neg,onE s.m s.e r.e-onE r.m r.e s.e,E⟩):=Lib.hid (by unfold sumN;rw [if_neg h0c,if_neg h1c,hE])
 have hw1:IntKind.i64.wrap (r.e-E)=(j:Int):=by rw [wrap_id (by omega) (by omega),hj]
 have hw2:IntKind.i64.wrap (s.e-E)=(k:Int):=by rw [wrap_id (by omega) (by omega),hk]
 have hj2:j≤1048576:=by omega
 have hk2:k≤1048576:=by omega
 have H1:Hid (∀ w',Below w.heap.size w w'→Calls Tryz.prog 123 #[.slice A n c,.int .i64 (j:Int)] w' (NP w' (onE r.m r.e s.e))):=Lib.hid (fun w' b=>by rw [← hX];exact shlN w' (ha.below b) (by omega) hj2)
 have H2:Hid (∀ w',Below w.heap.size w w'→Calls Tryz.prog 123 #[.slice B m d,.int .i64 (k:Int)] w' (NP w' (onE s.m s.e r.e))):=Lib.hid (fun w' b=>by rw [← hY];exact shlN w' (hb.below b) (by omega) hk2)
 clear h0 h1 h0c h1c hA hB hj hk hX hY
 generalize onE r.m r.e s.e=X at *
 generalize onE s.m s.e r.e=Y at *
 have ka0:=P.ks.2.2.1.at_ 0 _ rfl
 have ka1:=P.ks.2.2.1.at_ 1 _ rfl
 have ka2:=P.ks.2.2.1.at_ 2 _ rfl
 have kal:=P.ks.2.2.1.2
 have kb0:=P.ks.2.1.at_ 0 _ rfl
 have kb1:=P.ks.2.1.at_ 1 _ rfl
 have kb2:=P.ks.2.1.at_ 2 _ rfl
 have kbl:=P.ks.2.1.2
 go_enter Tryz.func81,Tryz.ntmps81
 go_upto_region 6 with fail
 generalize ((w.alloc (cd3 (.bool r.neg) (.slice A n c) (.int .i64 r.e))).alloc (cd3 (.bool s.neg) (.slice B m d) (.int .i64 s.e))).alloc (.cells zd 78)=w1 at *
 clear ka0 ka1 ka2 kal kb0 kb1 kb2 kbl
 have HC:Hid (∀ w' ns,Pu w w' [(78,w.heap.size+1+1,zd),(24,w.heap.size+1,#[.bool s.neg,.slice B m d,.int .i64 s.e]),(24,w.heap.size,#[.bool r.neg,.slice A n c,.int .i64 r.e])] ns→w'.cell? ⟨w.heap.size,1,none⟩=some (.slice A n c)∧w'.cell? ⟨w.heap.size,2,none⟩=some (.int .i64 r.e)∧w'.cell? ⟨w.heap.size+1,1,none⟩=some (.slice B m d)∧w'.cell? ⟨w.heap.size+1,2,none⟩=some (.int .i64 s.e)):=Lib.hid (fun w' ns h=>⟨h.ks.2.2.1.at_ 1 _ rfl,h.ks.2.2.1.at_ 2 _ rfl,h.ks.2.1.at_ 1 _ rfl,h.ks.2.1.at_ 2 _ rfl⟩)
 have PC:=P.drew
 clear P
 have XS:=HC.out _ _ PC
 go_region_held3 (fun w'=>w'.cell? ⟨w.heap.size,1,none⟩=some (.slice A n c)∧w'.cell? ⟨w.heap.size,2,none⟩=some (.int .i64 r.e)∧w'.cell? ⟨w.heap.size+1,1,none⟩=some (.slice B m d)∧w'.cell? ⟨w.heap.size+1,2,none⟩=some (.int .i64 s.e))
  (first | with_reducible exact HC.out _ _ PC | with_reducible exact XS)
  (first
   | (go_at_call_of 123 (Value.slice A n c);refine (H1.out _ PC.bel).mono ?_;rintro e' v1 ⟨A4,p4,c4,rfl,n4,b4⟩;have PQ:=(PC.below b4).num n4;clear PC;have PC:=PQ;clear PQ)
   | (go_at_call_of 123 (Value.slice B m d);refine (H2.out _ PC.bel).mono ?_;rintro e' v2 ⟨A5,p5,c5,rfl,n5,b5⟩;have PQ:=(PC.below b5).num n5;clear PC;have PC:=PQ;clear PQ))
 have P:=PC
 clear PC XS HC H1 H2 n4 b4 n5 b5
 by_cases hn:r.neg=s.neg
 · skip
   have hnb:(r.neg == s.neg)=true:=by simpa using hn
   have HT:=Lib.hid (HS.out.trans (if_pos hn))
   clear HS hn
   have ka0:=P.ks.2.2.1.at_ 0 _ rfl
   have ka1:=P.ks.2.2.1.at_ 1 _ rfl
   have ka2:=P.ks.2.2.1.at_ 2 _ rfl
   have kal:=P.ks.2.2.1.2
   have kb0:=P.ks.2.1.at_ 0 _ rfl
   have kb1:=P.ks.2.1.at_ 1 _ rfl
   have kb2:=P.ks.2.1.at_ 2 _ rfl
   have kbl:=P.ks.2.1.2
   go_upto_region 8 with fail
   clear ka0 ka1 ka2 kal kb0 kb1 kb2 kbl
   have HC:Hid (∀ w' ns,Pu w w' [(78,w.heap.size+1+1,zd),(24,w.heap.size+1,#[.bool s.neg,.slice B m d,.int .i64 s.e]),(24,w.heap.size,#[.bool r.neg,.slice A n c,.int .i64 r.e])] ns→w'.cell? ⟨w.heap.size,0,none⟩=some (.bool r.neg)):=Lib.hid (fun w' ns h=>h.ks.2.2.1.at_ 0 _ rfl)
   have HK:Hid (∀ w' w9 ns,Pu w w' [(78,w.heap.size+1+1,zd),(24,w.heap.size+1,#[.bool s.neg,.slice B m d,.int .i64 s.e]),(24,w.heap.size,#[.bool r.neg,.slice A n c,.int .i64 r.e])] ns→Only w' w9 (w.heap.size+1+1)→w9.cell? ⟨w.heap.size,0,none⟩=some (.bool r.neg)):=Lib.hid (fun w' w9 ns h o=>(h.ks.2.2.1.only o (by omega)).at_ 0 _ rfl)
   have PC:=P.drew
   clear P
   have XS:=HC.out _ _ PC
   go_region_held3 (fun w'=>w'.cell? ⟨w.heap.size,0,none⟩=some (.bool r.neg))
    (first | with_reducible exact HC.out _ _ P9 | with_reducible exact HK.out _ _ _ P9 (only_put3 _ _ _ _ _) | with_reducible exact XS)
    (first | (go_at_call 148;refine (addN _ PC.ns.2.1 PC.ns.1 (by omega) (by omega)).mono ?_;rintro e' v3 ⟨A6,p6,c6,rfl,n6,b6⟩;have P9:=(PC.below b6).num n6;have q0:=P9.ks.1.at_ 0 _ rfl;have q1:=P9.ks.1.at_ 1 _ rfl;have q2:=P9.ks.1.at_ 2 _ rfl;have qf0:=P9.ks.1.fr 0;have qf1:=P9.ks.1.fr 1;have qf2:=P9.ks.1.fr 2))
   go_wp2_with fail
   rw [HT.out]
   obtain ⟨hn9,hb9⟩:=P9.give P9.ks.1 (by omega) P9.ns.1 (.bool r.neg) (.slice A6 p6 c6) (.int .i64 E)
   exact bodyPost_ret (v:=.agg #[.bool r.neg,.slice A6 p6 c6,.int .i64 E]) (by simp [results,Tryz.results81,go_sem,q0,q1,q2]) rfl ⟨A6,p6,c6,rfl,hn9,hb9⟩
 · skip
   have hnb:(r.neg == s.neg)=false:=by simpa using hn
   have HS2:=Lib.hid (HS.out.trans (if_neg hn))
   clear HS hn
   by_cases hle:Y≤X
   · skip
     have HT:=Lib.hid (HS2.out.trans (if_pos hle))
     clear HS2
     have ka0:=P.ks.2.2.1.at_ 0 _ rfl
     have ka1:=P.ks.2.2.1.at_ 1 _ rfl
     have ka2:=P.ks.2.2.1.at_ 2 _ rfl
     have kal:=P.ks.2.2.1.2
     have kb0:=P.ks.2.1.at_ 0 _ rfl
     have kb1:=P.ks.2.1.at_ 1 _ rfl
     have kb2:=P.ks.2.1.at_ 2 _ rfl
     have kbl:=P.ks.2.1.2
     go_wp2_with fail
     refine (subN _ P.ns.2.1 P.ns.1 (by omega) (by omega) hle).mono ?_
     rintro e' v3 ⟨A6,p6,c6,rfl,n6,b6⟩
     replace P:=(P.below b6).num n6
     clear hle b6 n6 ka0 ka1 ka2 kal kb0 kb1 kb2 kbl
     have ka0:=P.ks.2.2.1.at_ 0 _ rfl
     have ka1:=P.ks.2.2.1.at_ 1 _ rfl
     have ka2:=P.ks.2.2.1.at_ 2 _ rfl
     have kal:=P.ks.2.2.1.2
     have kb0:=P.ks.2.1.at_ 0 _ rfl
     have kb1:=P.ks.2.1.at_ 1 _ rfl
     have kb2:=P.ks.2.1.at_ 2 _ rfl
     have kbl:=P.ks.2.1.2
     have kR:=P.ks.1
     have q0:=kR.at_ 0 _ rfl
     have q1:=kR.at_ 1 _ rfl
     have q2:=kR.at_ 2 _ rfl
     have qf0:=kR.fr 0
     have qf1:=kR.fr 1
     have qf2:=kR.fr 2
     go_wp2_with fail
     rw [HT.out]
     obtain ⟨hn9,hb9⟩:=P.give kR (by omega) P.ns.1 (.bool r.neg) (.slice A6 p6 c6) (.int .i64 E)
     exact bodyPost_ret (v:=.agg #[.bool r.neg,.slice A6 p6 c6,.int .i64 E]) (by simp [results,Tryz.results81,go_sem,q0,q1,q2]) rfl ⟨A6,p6,c6,rfl,hn9,hb9⟩
   · skip
     have HT:=Lib.hid (HS2.out.trans (if_neg hle))
     have hlt:X < Y:=by omega
     clear HS2
     have ka0:=P.ks.2.2.1.at_ 0 _ rfl
     have ka1:=P.ks.2.2.1.at_ 1 _ rfl
     have ka2:=P.ks.2.2.1.at_ 2 _ rfl
     have kal:=P.ks.2.2.1.2
     have kb0:=P.ks.2.1.at_ 0 _ rfl
     have kb1:=P.ks.2.1.at_ 1 _ rfl
     have kb2:=P.ks.2.1.at_ 2 _ rfl
     have kbl:=P.ks.2.1.2
     go_wp2_with fail
     refine (subNo _ P.ns.2.1 P.ns.1 (by omega) (by omega) hlt).mono ?_
     rintro e' v3 ⟨rfl,b6⟩
     replace P:=P.below b6
     clear b6 hle ka0 ka1 ka2 kal kb0 kb1 kb2 kbl
     have ka0:=P.ks.2.2.1.at_ 0 _ rfl
     have ka1:=P.ks.2.2.1.at_ 1 _ rfl
     have ka2:=P.ks.2.2.1.at_ 2 _ rfl
     have kal:=P.ks.2.2.1.2
     have kb0:=P.ks.2.1.at_ 0 _ rfl
     have kb1:=P.ks.2.1.at_ 1 _ rfl
     have kb2:=P.ks.2.1.at_ 2 _ rfl
     have kbl:=P.ks.2.1.2
     go_wp2_with fail
     refine (subN _ P.ns.1 P.ns.2.1 (by omega) (by omega) (by omega)).mono ?_
     rintro e' v4 ⟨A6,p6,c6,rfl,n6,b6⟩
     replace P:=(P.below b6).num n6
     clear b6 n6 ka0 ka1 ka2 kal kb0 kb1 kb2 kbl
     have ka0:=P.ks.2.2.1.at_ 0 _ rfl
     have ka1:=P.ks.2.2.1.at_ 1 _ rfl
     have ka2:=P.ks.2.2.1.at_ 2 _ rfl
     have kal:=P.ks.2.2.1.2
     have kb0:=P.ks.2.1.at_ 0 _ rfl
     have kb1:=P.ks.2.1.at_ 1 _ rfl
     have kb2:=P.ks.2.1.at_ 2 _ rfl
     have kbl:=P.ks.2.1.2
     have kR:=P.ks.1
     have q0:=kR.at_ 0 _ rfl
     have q1:=kR.at_ 1 _ rfl
     have q2:=kR.at_ 2 _ rfl
     have qf0:=kR.fr 0
     have qf1:=kR.fr 1
     have qf2:=kR.fr 2
     go_wp2_with fail
     rw [HT.out]
     obtain ⟨hn9,hb9⟩:=P.give kR (by omega) P.ns.1 (.bool s.neg) (.slice A6 p6 c6) (.int .i64 E)
     exact bodyPost_ret (v:=.agg #[.bool s.neg,.slice A6 p6 c6,.int .i64 E]) (by simp [results,Tryz.results81,go_sem,q0,q1,q2]) rfl ⟨A6,p6,c6,rfl,hn9,hb9⟩
end Go.Proofs.YtmbmohibpkepdaaGreatDoor
namespace Go.Proofs.YtmbmohibpkepdaaGreatDoor
open Go.RowKit
def sumC (r s:DR) (p:Nat) (up:Bool):DR:=cutD (sumN r s).neg (sumN r s).m (sumN r s).e false p up
end Go.Proofs.YtmbmohibpkepdaaGreatDoor
namespace Go.Proofs.YtmbmohibpkepdaaGreatDoor
open Go.RowKit
variable {TW:TypeId}
def addS (p:Int) (bad:Bool) (lo hi lo' hi':DR):SRes:=twoS (bad2 p bad lo hi lo' hi') (sumC lo lo' p.toNat false) (sumC hi hi' p.toNat true)
set_option maxRecDepth 8000 in
set_option maxHeartbeats 4000000 in
theorem sadd_any {lo hi lo' hi':DR} {A B A' B':Option Addr} {n c m d n' c' m' d':Nat} (g:Nat) (p:Int) (bad:Bool) (w:World) (hW:Wk TW w g p bad) (ha:DIn w A n c lo) (hb:DIn w B m d hi) (ha':DIn w A' n' c' lo') (hb':DIn w B' m' d' hi') (hT:Tab w) :
 Calls Tryz.prog 39 #[.pointer (some ⟨g,0,none⟩),spv lo.neg A n c lo.e hi.neg B m d hi.e,spv lo'.neg A' n' c' lo'.e hi'.neg B' m' d' hi'.e] w (SPost TW w g p (addS p bad lo hi lo' hi')):=by
 have S:=st2 hW (.bool lo.neg) (.slice A n c) (.int .i64 lo.e) (.bool hi.neg) (.slice B m d) (.int .i64 hi.e) (.bool lo'.neg) (.slice A' n' c') (.int .i64 lo'.e) (.bool hi'.neg) (.slice B' m' d') (.int .i64 hi'.e)
 have TK:=take2 g p bad _ S.W (ha.wk hW S.O) (hb.wk hW S.O) (ha'.wk hW S.O) (hb'.wk hW S.O)
 rw [show (((w.alloc (co6 (.bool lo.neg) (.slice A n c) (.int .i64 lo.e) (.bool hi.neg) (.slice B m d) (.int .i64 hi.e))).alloc (co6 (.bool lo'.neg) (.slice A' n' c') (.int .i64 lo'.e) (.bool hi'.neg) (.slice B' m' d') (.int .i64 hi'.e))).alloc z6).heap.size=w.heap.size+1+1+1 by simp] at TK
 have TKH:=Lib.hid TK
 clear TK
 have k0:=S.ks.2.2.1.1
 have k0_0:=k0.at_ 0 _ rfl
 have k0_1:=k0.at_ 1 _ rfl
 have k0_2:=k0.at_ 2 _ rfl
 have k0_3:=k0.at_ 3 _ rfl
 have k0_4:=k0.at_ 4 _ rfl
 have k0_5:=k0.at_ 5 _ rfl
 have k0l:=k0.2
 clear k0
 have k1:=S.ks.2.1.1
 have k1_0:=k1.at_ 0 _ rfl
 have k1_1:=k1.at_ 1 _ rfl
 have k1_2:=k1.at_ 2 _ rfl
 have k1_3:=k1.at_ 3 _ rfl
 have k1_4:=k1.at_ 4 _ rfl
 have k1_5:=k1.at_ 5 _ rfl
 have k1l:=k1.2
 clear k1
 go_enter Tryz.func39,Tryz.ntmps39
 go_wp2_with fail
 refine TKH.out.mono ?_
 clear TKH
 clear k0_0 k0_1 k0_2 k0_3 k0_4 k0_5 k0l k1_0 k1_1 k1_2 k1_3 k1_4 k1_5 k1l
 generalize ((w.alloc (co6 (.bool lo.neg) (.slice A n c) (.int .i64 lo.e) (.bool hi.neg) (.slice B m d) (.int .i64 hi.e))).alloc (co6 (.bool lo'.neg) (.slice A' n' c') (.int .i64 lo'.e) (.bool hi'.neg) (.slice B' m' d') (.int .i64 hi'.e))).alloc z6=w1 at *
 rintro e' w2 ⟨rfl,hW2,o2⟩
 replace S:=S.only o2 hW2
 clear o2 hW2
 obtain ⟨bo,hbo⟩:∃ b:Bool,Hid (bad2 p bad lo hi lo' hi'=b):=⟨_,Lib.hid rfl⟩
 rw [hbo.out] at S
 rw [hbo.out]
 cases bo
 rotate_left
 · have HT:Hid (addS p bad lo hi lo' hi'=SRes.no):=Lib.hid (by unfold addS;rw [hbo.out];rfl)
   have kR:=S.ks.1.1
   have s0:=kR.at_ 0 _ rfl
   have s1:=kR.at_ 1 _ rfl
   have s2:=kR.at_ 2 _ rfl
   have s3:=kR.at_ 3 _ rfl
   have s4:=kR.at_ 4 _ rfl
   have s5:=kR.at_ 5 _ rfl
   have rf0:=kR.fr 0
   have rf1:=kR.fr 1
   have rf2:=kR.fr 2
   have rf3:=kR.fr 3
   have rf4:=kR.fr 4
   have rf5:=kR.fr 5
   go_wp2_with fail
   rw [HT.out]
   obtain ⟨q1,q2,q3,q4⟩:=S.give (lo:=DR.zero) (hi:=DR.zero) (num_nil _) (num_nil _) kR (by omega)
   exact bodyPost_ret (v:=spv false none 0 0 0 false none 0 0 0) (by simp [results,Tryz.results39,go_sem,s0,s1,s2,s3,s4,s5]) rfl ⟨none,0,0,none,0,0,rfl,q1,q2,q3,q4⟩
 · skip
   obtain ⟨hbad,hp,hR,hR'⟩:=bad2_false hbo.out
   obtain ⟨P,hP⟩:∃ P:Nat,p=(P:Int):=⟨p.toNat,by omega⟩
   have hPt:p.toNat=P:=by omega
   have HT:Hid (addS p bad lo hi lo' hi'=outwS P (sumN lo lo') (sumN hi hi')):=Lib.hid (by unfold addS;rw [hbo.out,hPt];rfl)
   have D1:Hid (∀ w',Only w w' g→Calls Tryz.prog 81 #[dyv lo.neg A n c lo.e,dyv lo'.neg A' n' c' lo'.e] w' (DOne w' (sumN lo lo'))):=Lib.hid (fun w' o=>sum_any3 w' ((ha.wk hW o).num hR.l) ((ha'.wk hW o).num hR'.l) (ha.plain hR.l) (ha'.plain hR'.l))
   have D2:Hid (∀ w',Only w w' g→Calls Tryz.prog 81 #[dyv hi.neg B m d hi.e,dyv hi'.neg B' m' d' hi'.e] w' (DOne w' (sumN hi hi'))):=Lib.hid (fun w' o=>sum_any3 w' ((hb.wk hW o).num hR.h) ((hb'.wk hW o).num hR'.h) (hb.plain hR.h) (hb'.plain hR'.h))
   have wd1:=sumN_wide (ha.plain hR.l) (ha'.plain hR'.l)
   have wd2:=sumN_wide (hb.plain hR.h) (hb'.plain hR'.h)
   have OW:Hid (∀ w' A1 n1 c1 A2 n2 c2,Wk TW w' g p false→Only w w' g→Num w' (.slice A1 n1 c1) (sumN lo lo').m→Num w' (.slice A2 n2 c2) (sumN hi hi').m→Calls Tryz.prog 70 #[.pointer (some ⟨g,0,none⟩),dyv (sumN lo lo').neg A1 n1 c1 (sumN lo lo').e,dyv (sumN hi hi').neg A2 n2 c2 (sumN hi hi').e] w' (SPost TW w' g p (outwS P (sumN lo lo') (sumN hi hi')))):=Lib.hid (fun w' A1 n1 c1 A2 n2 c2 k o h1 h2=>by
    rw [hP] at k ⊢
    exact outward_any g P (by omega) w' k h1 h2 ⟨by have:=wd1.bits;omega,by have:=wd1.e1;omega,by have:=wd1.e2;omega⟩ ⟨by have:=wd2.bits;omega,by have:=wd2.e1;omega,by have:=wd2.e2;omega⟩ (hT.wk hW o))
   clear wd1 wd2
   generalize outwS P (sumN lo lo') (sumN hi hi')=z at *
   generalize sumN lo lo'=r1 at *
   generalize sumN hi hi'=r2 at *
   clear hbo hbad hP hPt hR hR'
   have HC:Hid (∀ w' bd ns,St TW w g p bd w' [(31,w.heap.size+1+1,zs),(31,w.heap.size+1,#[.bool lo'.neg,.slice A' n' c',.int .i64 lo'.e,.bool hi'.neg,.slice B' m' d',.int .i64 hi'.e]),(31,w.heap.size,#[.bool lo.neg,.slice A n c,.int .i64 lo.e,.bool hi.neg,.slice B m d,.int .i64 hi.e])] ns→w'.cell? ⟨w.heap.size,0,none⟩=some (.bool lo.neg)∧w'.cell? ⟨w.heap.size,1,none⟩=some (.slice A n c)∧w'.cell? ⟨w.heap.size,2,none⟩=some (.int .i64 lo.e)∧w'.cell? ⟨w.heap.size,3,none⟩=some (.bool hi.neg)∧w'.cell? ⟨w.heap.size,4,none⟩=some (.slice B m d)∧w'.cell? ⟨w.heap.size,5,none⟩=some (.int .i64 hi.e)∧w'.cell? ⟨w.heap.size+1,0,none⟩=some (.bool lo'.neg)∧w'.cell? ⟨w.heap.size+1,1,none⟩=some (.slice A' n' c')∧w'.cell? ⟨w.heap.size+1,2,none⟩=some (.int .i64 lo'.e)∧w'.cell? ⟨w.heap.size+1,3,none⟩=some (.bool hi'.neg)∧w'.cell? ⟨w.heap.size+1,4,none⟩=some (.slice B' m' d')∧w'.cell? ⟨w.heap.size+1,5,none⟩=some (.int .i64 hi'.e)):=Lib.hid (fun w' bd ns h=>⟨h.ks.2.2.1.1.at_ 0 _ rfl,h.ks.2.2.1.1.at_ 1 _ rfl,h.ks.2.2.1.1.at_ 2 _ rfl,h.ks.2.2.1.1.at_ 3 _ rfl,h.ks.2.2.1.1.at_ 4 _ rfl,h.ks.2.2.1.1.at_ 5 _ rfl,h.ks.2.1.1.at_ 0 _ rfl,h.ks.2.1.1.at_ 1 _ rfl,h.ks.2.1.1.at_ 2 _ rfl,h.ks.2.1.1.at_ 3 _ rfl,h.ks.2.1.1.at_ 4 _ rfl,h.ks.2.1.1.at_ 5 _ rfl⟩)
   have HK:Hid (∀ w' w9 bd ns,St TW w g p bd w' [(31,w.heap.size+1+1,zs),(31,w.heap.size+1,#[.bool lo'.neg,.slice A' n' c',.int .i64 lo'.e,.bool hi'.neg,.slice B' m' d',.int .i64 hi'.e]),(31,w.heap.size,#[.bool lo.neg,.slice A n c,.int .i64 lo.e,.bool hi.neg,.slice B m d,.int .i64 hi.e])] ns→Only w' w9 (w.heap.size+1+1)→w9.cell? ⟨w.heap.size,0,none⟩=some (.bool lo.neg)∧w9.cell? ⟨w.heap.size,1,none⟩=some (.slice A n c)∧w9.cell? ⟨w.heap.size,2,none⟩=some (.int .i64 lo.e)∧w9.cell? ⟨w.heap.size,3,none⟩=some (.bool hi.neg)∧w9.cell? ⟨w.heap.size,4,none⟩=some (.slice B m d)∧w9.cell? ⟨w.heap.size,5,none⟩=some (.int .i64 hi.e)∧w9.cell? ⟨w.heap.size+1,0,none⟩=some (.bool lo'.neg)∧w9.cell? ⟨w.heap.size+1,1,none⟩=some (.slice A' n' c')∧w9.cell? ⟨w.heap.size+1,2,none⟩=some (.int .i64 lo'.e)∧w9.cell? ⟨w.heap.size+1,3,none⟩=some (.bool hi'.neg)∧w9.cell? ⟨w.heap.size+1,4,none⟩=some (.slice B' m' d')∧w9.cell? ⟨w.heap.size+1,5,none⟩=some (.int .i64 hi'.e)):=Lib.hid (fun w' w9 bd ns h o=>⟨(h.ks.2.2.1.1.only o (by omega)).at_ 0 _ rfl,(h.ks.2.2.1.1.only o (by omega)).at_ 1 _ rfl,(h.ks.2.2.1.1.only o (by omega)).at_ 2 _ rfl,(h.ks.2.2.1.1.only o (by omega)).at_ 3 _ rfl,(h.ks.2.2.1.1.only o (by omega)).at_ 4 _ rfl,(h.ks.2.2.1.1.only o (by omega)).at_ 5 _ rfl,(h.ks.2.1.1.only o (by omega)).at_ 0 _ rfl,(h.ks.2.1.1.only o (by omega)).at_ 1 _ rfl,(h.ks.2.1.1.only o (by omega)).at_ 2 _ rfl,(h.ks.2.1.1.only o (by omega)).at_ 3 _ rfl,(h.ks.2.1.1.only o (by omega)).at_ 4 _ rfl,(h.ks.2.1.1.only o (by omega)).at_ 5 _ rfl⟩)
   have LC:=S.drew
   clear S
   have XS:=HC.out _ _ _ LC
   go_upto_region 3 with fail
   go_region_held3 (fun w'=>w'.cell? ⟨w.heap.size,0,none⟩=some (.bool lo.neg)∧w'.cell? ⟨w.heap.size,1,none⟩=some (.slice A n c)∧w'.cell? ⟨w.heap.size,2,none⟩=some (.int .i64 lo.e)∧w'.cell? ⟨w.heap.size,3,none⟩=some (.bool hi.neg)∧w'.cell? ⟨w.heap.size,4,none⟩=some (.slice B m d)∧w'.cell? ⟨w.heap.size,5,none⟩=some (.int .i64 hi.e)∧w'.cell? ⟨w.heap.size+1,0,none⟩=some (.bool lo'.neg)∧w'.cell? ⟨w.heap.size+1,1,none⟩=some (.slice A' n' c')∧w'.cell? ⟨w.heap.size+1,2,none⟩=some (.int .i64 lo'.e)∧w'.cell? ⟨w.heap.size+1,3,none⟩=some (.bool hi'.neg)∧w'.cell? ⟨w.heap.size+1,4,none⟩=some (.slice B' m' d')∧w'.cell? ⟨w.heap.size+1,5,none⟩=some (.int .i64 hi'.e))
    (first | with_reducible exact HC.out v3 _ _ L9 | (refine HK.out v3 _ _ _ L9 ?_;with_reducible exact only_put6 _ _ _ _ _ _ _ _) | with_reducible exact HC.out _ _ _ LC | with_reducible exact XS)
    (first
     | (go_at_call_of 81 (Value.agg #[Value.bool lo.neg,Value.slice A n c,Value.int .i64 lo.e]);refine (D1.out _ LC.O).mono ?_;rintro e' v1 ⟨A1,n1,c1,rfl,m1,b1⟩;have LQ:=(LC.below b1).num m1;clear LC;have LC:=LQ;clear LQ;clear m1 b1)
     | (go_at_call_of 81 (Value.agg #[Value.bool hi.neg,Value.slice B m d,Value.int .i64 hi.e]);refine (D2.out _ LC.O).mono ?_;rintro e' v2 ⟨A2,n2,c2,rfl,m2,b2⟩;have LQ:=(LC.below b2).num m2;clear LC;have LC:=LQ;clear LQ;clear m2 b2)
     | (go_at_call 70;refine (OW.out _ _ _ _ _ _ _ LC.W LC.O LC.ns.2.1 LC.ns.1).mono ?_;rintro e' v3 ⟨A9,p9,c9,B9,q9,d9,rfl,m1,m2,hW9,o9⟩;have L9:=((LC.only o9 hW9).num m2).num m1;have s0:=L9.ks.1.1.at_ 0 _ rfl;have s1:=L9.ks.1.1.at_ 1 _ rfl;have s2:=L9.ks.1.1.at_ 2 _ rfl;have s3:=L9.ks.1.1.at_ 3 _ rfl;have s4:=L9.ks.1.1.at_ 4 _ rfl;have s5:=L9.ks.1.1.at_ 5 _ rfl;have rf0:=L9.ks.1.1.fr 0;have rf1:=L9.ks.1.1.fr 1;have rf2:=L9.ks.1.1.fr 2;have rf3:=L9.ks.1.1.fr 3;have rf4:=L9.ks.1.1.fr 4;have rf5:=L9.ks.1.1.fr 5))
   go_wp2_with fail
   rw [HT.out]
   obtain ⟨y1,y2,y3,y4⟩:=L9.give (lo:=z.lo) (hi:=z.hi) L9.ns.1 L9.ns.2.1 L9.ks.1.1 (by omega)
   exact bodyPost_ret (v:=spv (z.lo).neg A9 p9 c9 (z.lo).e (z.hi).neg B9 q9 d9 (z.hi).e) (by simp [results,Tryz.results39,go_sem,s0,s1,s2,s3,s4,s5]) rfl ⟨A9,p9,c9,B9,q9,d9,rfl,y1,y2,y3,y4⟩
end Go.Proofs.YtmbmohibpkepdaaGreatDoor
namespace Go.Proofs.YtmbmohibpkepdaaGreatDoor
open Go.RowKit
variable {TW:TypeId}
def subS (p:Int) (bad:Bool) (lo hi lo' hi':DR):SRes:=addS p (negS p bad lo' hi').bad lo hi (negS p bad lo' hi').lo (negS p bad lo' hi').hi
theorem sgood_neg {p:Int} {bad:Bool} {lo hi:DR} (h1:lo.ok=true→PlainR lo) (h2:hi.ok=true→PlainR hi):SGood (negS p bad lo hi):=sgood_two (plIf_negI h2) (plIf_negI h1)
set_option maxRecDepth 8000 in
set_option maxHeartbeats 4000000 in
theorem ssub_any {lo hi lo' hi':DR} {A B A' B':Option Addr} {n c m d n' c' m' d':Nat} (g:Nat) (p:Int) (bad:Bool) (w:World) (hW:Wk TW w g p bad) (ha:DIn w A n c lo) (hb:DIn w B m d hi) (ha':DIn w A' n' c' lo') (hb':DIn w B' m' d' hi') (hT:Tab w) :
 Calls Tryz.prog 28 #[.pointer (some ⟨g,0,none⟩),spv lo.neg A n c lo.e hi.neg B m d hi.e,spv lo'.neg A' n' c' lo'.e hi'.neg B' m' d' hi'.e] w (SPost TW w g p (subS p bad lo hi lo' hi')):=by
 have S:=st2 hW (.bool lo.neg) (.slice A n c) (.int .i64 lo.e) (.bool hi.neg) (.slice B m d) (.int .i64 hi.e) (.bool lo'.neg) (.slice A' n' c') (.int .i64 lo'.e) (.bool hi'.neg) (.slice B' m' d') (.int .i64 hi'.e)
 obtain ⟨x,hx⟩:∃ x,x=negS p bad lo' hi':=⟨_,rfl⟩
 have GX:SGood x:=by rw [hx];exact sgood_neg (fun h=>ha'.plain h) (fun h=>hb'.plain h)
 have N1:Hid (∀ w',Wk TW w' g p bad→Only w w' g→Calls Tryz.prog 69 #[.pointer (some ⟨g,0,none⟩),spv lo'.neg A' n' c' lo'.e hi'.neg B' m' d' hi'.e] w' (SPost TW w' g p x)):=Lib.hid (fun w' k o=>by rw [hx];exact neg_I g p bad w' k (ha'.wk hW o) (hb'.wk hW o) (hT.wk hW o))
 have N2:Hid (∀ w' X1 x1 y1 X2 x2 y2,Wk TW w' g p x.bad→Only w w' g→Num w' (.slice X1 x1 y1) x.lo.m→Num w' (.slice X2 x2 y2) x.hi.m→Calls Tryz.prog 39 #[.pointer (some ⟨g,0,none⟩),spv lo.neg A n c lo.e hi.neg B m d hi.e,spv x.lo.neg X1 x1 y1 x.lo.e x.hi.neg X2 x2 y2 x.hi.e] w' (SPost TW w' g p (addS p x.bad lo hi x.lo x.hi))):=Lib.hid (fun w' X1 x1 y1 X2 x2 y2 k o h1 h2=>sadd_any g p x.bad w' k (ha.wk hW o) (hb.wk hW o) (DIn.of_num h1 GX.l2 GX.l1) (DIn.of_num h2 GX.h2 GX.h1) (hT.wk hW o))
 have HT:Hid (subS p bad lo hi lo' hi'=addS p x.bad lo hi x.lo x.hi):=Lib.hid (by unfold subS;rw [← hx])
 generalize addS p x.bad lo hi x.lo x.hi=z at *
 clear hx GX
 go_enter Tryz.func28,Tryz.ntmps28
 go_upto_region 1 with fail
 generalize ((w.alloc (co6 (.bool lo.neg) (.slice A n c) (.int .i64 lo.e) (.bool hi.neg) (.slice B m d) (.int .i64 hi.e))).alloc (co6 (.bool lo'.neg) (.slice A' n' c') (.int .i64 lo'.e) (.bool hi'.neg) (.slice B' m' d') (.int .i64 hi'.e))).alloc z6=w1 at *
 have HC:Hid (∀ w' bd ns,St TW w g p bd w' [(31,w.heap.size+1+1,zs),(31,w.heap.size+1,#[.bool lo'.neg,.slice A' n' c',.int .i64 lo'.e,.bool hi'.neg,.slice B' m' d',.int .i64 hi'.e]),(31,w.heap.size,#[.bool lo.neg,.slice A n c,.int .i64 lo.e,.bool hi.neg,.slice B m d,.int .i64 hi.e])] ns→w'.cell? ⟨w.heap.size,0,none⟩=some (.bool lo.neg)∧w'.cell? ⟨w.heap.size,1,none⟩=some (.slice A n c)∧w'.cell? ⟨w.heap.size,2,none⟩=some (.int .i64 lo.e)∧w'.cell? ⟨w.heap.size,3,none⟩=some (.bool hi.neg)∧w'.cell? ⟨w.heap.size,4,none⟩=some (.slice B m d)∧w'.cell? ⟨w.heap.size,5,none⟩=some (.int .i64 hi.e)∧w'.cell? ⟨w.heap.size+1,0,none⟩=some (.bool lo'.neg)∧w'.cell? ⟨w.heap.size+1,1,none⟩=some (.slice A' n' c')∧w'.cell? ⟨w.heap.size+1,2,none⟩=some (.int .i64 lo'.e)∧w'.cell? ⟨w.heap.size+1,3,none⟩=some (.bool hi'.neg)∧w'.cell? ⟨w.heap.size+1,4,none⟩=some (.slice B' m' d')∧w'.cell? ⟨w.heap.size+1,5,none⟩=some (.int .i64 hi'.e)):=Lib.hid (fun w' bd ns h=>⟨h.ks.2.2.1.1.at_ 0 _ rfl,h.ks.2.2.1.1.at_ 1 _ rfl,h.ks.2.2.1.1.at_ 2 _ rfl,h.ks.2.2.1.1.at_ 3 _ rfl,h.ks.2.2.1.1.at_ 4 _ rfl,h.ks.2.2.1.1.at_ 5 _ rfl,h.ks.2.1.1.at_ 0 _ rfl,h.ks.2.1.1.at_ 1 _ rfl,h.ks.2.1.1.at_ 2 _ rfl,h.ks.2.1.1.at_ 3 _ rfl,h.ks.2.1.1.at_ 4 _ rfl,h.ks.2.1.1.at_ 5 _ rfl⟩)
 have HK:Hid (∀ w' w9 bd ns,St TW w g p bd w' [(31,w.heap.size+1+1,zs),(31,w.heap.size+1,#[.bool lo'.neg,.slice A' n' c',.int .i64 lo'.e,.bool hi'.neg,.slice B' m' d',.int .i64 hi'.e]),(31,w.heap.size,#[.bool lo.neg,.slice A n c,.int .i64 lo.e,.bool hi.neg,.slice B m d,.int .i64 hi.e])] ns→Only w' w9 (w.heap.size+1+1)→w9.cell? ⟨w.heap.size,0,none⟩=some (.bool lo.neg)∧w9.cell? ⟨w.heap.size,1,none⟩=some (.slice A n c)∧w9.cell? ⟨w.heap.size,2,none⟩=some (.int .i64 lo.e)∧w9.cell? ⟨w.heap.size,3,none⟩=some (.bool hi.neg)∧w9.cell? ⟨w.heap.size,4,none⟩=some (.slice B m d)∧w9.cell? ⟨w.heap.size,5,none⟩=some (.int .i64 hi.e)∧w9.cell? ⟨w.heap.size+1,0,none⟩=some (.bool lo'.neg)∧w9.cell? ⟨w.heap.size+1,1,none⟩=some (.slice A' n' c')∧w9.cell? ⟨w.heap.size+1,2,none⟩=some (.int .i64 lo'.e)∧w9.cell? ⟨w.heap.size+1,3,none⟩=some (.bool hi'.neg)∧w9.cell? ⟨w.heap.size+1,4,none⟩=some (.slice B' m' d')∧w9.cell? ⟨w.heap.size+1,5,none⟩=some (.int .i64 hi'.e)):=Lib.hid (fun w' w9 bd ns h o=>⟨(h.ks.2.2.1.1.only o (by omega)).at_ 0 _ rfl,(h.ks.2.2.1.1.only o (by omega)).at_ 1 _ rfl,(h.ks.2.2.1.1.only o (by omega)).at_ 2 _ rfl,(h.ks.2.2.1.1.only o (by omega)).at_ 3 _ rfl,(h.ks.2.2.1.1.only o (by omega)).at_ 4 _ rfl,(h.ks.2.2.1.1.only o (by omega)).at_ 5 _ rfl,(h.ks.2.1.1.only o (by omega)).at_ 0 _ rfl,(h.ks.2.1.1.only o (by omega)).at_ 1 _ rfl,(h.ks.2.1.1.only o (by omega)).at_ 2 _ rfl,(h.ks.2.1.1.only o (by omega)).at_ 3 _ rfl,(h.ks.2.1.1.only o (by omega)).at_ 4 _ rfl,(h.ks.2.1.1.only o (by omega)).at_ 5 _ rfl⟩)
 have LC:=S.drew
 clear S
 have XS:=HC.out _ _ _ LC
 go_upto_region 1 with fail
 go_region_held3 (fun w'=>w'.cell? ⟨w.heap.size,0,none⟩=some (.bool lo.neg)∧w'.cell? ⟨w.heap.size,1,none⟩=some (.slice A n c)∧w'.cell? ⟨w.heap.size,2,none⟩=some (.int .i64 lo.e)∧w'.cell? ⟨w.heap.size,3,none⟩=some (.bool hi.neg)∧w'.cell? ⟨w.heap.size,4,none⟩=some (.slice B m d)∧w'.cell? ⟨w.heap.size,5,none⟩=some (.int .i64 hi.e)∧w'.cell? ⟨w.heap.size+1,0,none⟩=some (.bool lo'.neg)∧w'.cell? ⟨w.heap.size+1,1,none⟩=some (.slice A' n' c')∧w'.cell? ⟨w.heap.size+1,2,none⟩=some (.int .i64 lo'.e)∧w'.cell? ⟨w.heap.size+1,3,none⟩=some (.bool hi'.neg)∧w'.cell? ⟨w.heap.size+1,4,none⟩=some (.slice B' m' d')∧w'.cell? ⟨w.heap.size+1,5,none⟩=some (.int .i64 hi'.e))
  (first | with_reducible exact HC.out v3 _ _ L9 | (refine HK.out v3 _ _ _ L9 ?_;with_reducible exact only_put6 _ _ _ _ _ _ _ _) | with_reducible exact HC.out _ _ _ LC | with_reducible exact XS)
  (first
   | (go_at_call 69;refine (N1.out _ LC.W LC.O).mono ?_;rintro e' v1 ⟨X1,x1,y1,X2,x2,y2,rfl,m1,m2,hW1,o1⟩;have LQ:=((LC.only o1 hW1).num m2).num m1;clear LC;have LC:=LQ;clear LQ;clear m1 m2 hW1 o1)
   | (go_at_call 39;refine (N2.out _ _ _ _ _ _ _ LC.W LC.O LC.ns.1 LC.ns.2.1).mono ?_;rintro e' v3 ⟨A9,p9,c9,B9,q9,d9,rfl,m1,m2,hW9,o9⟩;have L9:=((LC.only o9 hW9).num m2).num m1;have s0:=L9.ks.1.1.at_ 0 _ rfl;have s1:=L9.ks.1.1.at_ 1 _ rfl;have s2:=L9.ks.1.1.at_ 2 _ rfl;have s3:=L9.ks.1.1.at_ 3 _ rfl;have s4:=L9.ks.1.1.at_ 4 _ rfl;have s5:=L9.ks.1.1.at_ 5 _ rfl;have rf0:=L9.ks.1.1.fr 0;have rf1:=L9.ks.1.1.fr 1;have rf2:=L9.ks.1.1.fr 2;have rf3:=L9.ks.1.1.fr 3;have rf4:=L9.ks.1.1.fr 4;have rf5:=L9.ks.1.1.fr 5))
 go_wp2_with fail
 rw [HT.out]
 obtain ⟨y1,y2,y3,y4⟩:=L9.give (lo:=z.lo) (hi:=z.hi) L9.ns.1 L9.ns.2.1 L9.ks.1.1 (by omega)
 exact bodyPost_ret (v:=spv (z.lo).neg A9 p9 c9 (z.lo).e (z.hi).neg B9 q9 d9 (z.hi).e) (by simp [results,Tryz.results28,go_sem,s0,s1,s2,s3,s4,s5]) rfl ⟨A9,p9,c9,B9,q9,d9,rfl,y1,y2,y3,y4⟩
end Go.Proofs.YtmbmohibpkepdaaGreatDoor
