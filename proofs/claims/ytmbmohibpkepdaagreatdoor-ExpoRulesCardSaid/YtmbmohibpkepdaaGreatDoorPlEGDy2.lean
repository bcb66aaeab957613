/-
 dyad.settle: a number cut to so many bits, one way or the other.
 What lies in memory while a call of dyad works: its parameters, and the place of its answer. What plain dyads are.
 volvelleref02: Plain, Same; volvellelaw02.both.
-/
import Derived.Deep.QuietTactic
import Derived.BigQuiet
import Derived.Test.YtmbmohibpkepdaaGreatDoorPlEGNumbers
import Derived.Test.YtmbmohibpkepdaaGreatDoorPlEGDy1
namespace Go.Proofs.YtmbmohibpkepdaaGreatDoor
open Go.RowKit
theorem kept_one {V L p:Nat} (hL:L=nb V) (e:Int) (neg more up b:Bool) (hb:b=((more || decide (V/2^(L-p)*2^(L-p)≠V)) && (up != neg))) :
 cutD neg V e more p up=mkD neg (V/2^(L-p)+(if b then 1 else 0)) (e+((L-p:Nat):Int)):=by
 subst hL;subst hb;rfl
set_option maxHeartbeats 2000000 in
theorem settle_any (neg:Bool) (A:Option Addr) (n c:Nat) (x:Nat→Nat) (e:Int) (more:Bool) (p:Nat) (up:Bool) (w:World) (ha:Sl w A n c x) (hn:n≤16000) (hp:p≤8192) (hT:Tab w) (he1:-1000000000≤e) (he2:e≤1000000000) :
 Calls Tryz.prog 184 #[dyv neg A n c e,.bool more,.int .i64 (p:Int),.bool up] w (DPost w (cutD neg (vs B64 x n) e more p up)):=by
 have bA:Below w.heap.size w (w.alloc (.cells #[.bool neg,.slice A n c,.int .i64 e] 24)):=(Below.refl _ w).alloc (Nat.le_refl _) _
 have bB:=bA.alloc bA.size (.cells #[.bool false,.slice none 0 0,.int .i64 0] 24)
 have kd:=(Blk3.made w (.bool neg) (.slice A n c) (.int .i64 e)).below ((Below.refl (w.heap.size+1) _).alloc (by simp) (.cells #[.bool false,.slice none 0 0,.int .i64 0] 24)) (by simp)
 have kr:=Blk3.made (w.alloc (.cells #[.bool neg,.slice A n c,.int .i64 e] 24)) (.bool false) (.slice none 0 0) (.int .i64 0)
 rw [show (w.alloc (.cells #[.bool neg,.slice A n c,.int .i64 e] 24)).heap.size=w.heap.size+1 by simp] at kr
 have hsz:((w.alloc (.cells #[.bool neg,.slice A n c,.int .i64 e] 24)).alloc (.cells #[.bool false,.slice none 0 0,.int .i64 0] 24)).heap.size=w.heap.size+2:=by simp
 have hnb:=nb_words (vs_lt ha.small)
 have KX:=Lib.hid (vs_lt ha.small)
 obtain ⟨L,hL⟩:∃ L,Hid (L=nb (vs B64 x n)):=⟨_,Lib.hid rfl⟩
 rw [← hL.out] at hnb
 obtain ⟨D,hD⟩:∃ D,Hid (D=L-p):=⟨_,Lib.hid rfl⟩
 have hmax:max ((L:Int)-(p:Int)) 0=(D:Int):=by have:=hD.out;omega
 have hDn:D≤64*n:=by have:=hD.out;omega
 go_enter Tryz.func184,Tryz.ntmps184
 go_wp2_with fail
 generalize (w.alloc (.cells #[.bool neg,.slice A n c,.int .i64 e] 24)).alloc (.cells #[.bool false,.slice none 0 0,.int .i64 0] 24)=w1 at *
 have s1:=ha.below bB
 have t1:=hT.below bB
 refine (bits_same A n c x _ s1 (by omega)).mono ?_
 rintro e' w2 ⟨B,rfl,hB,rfl⟩
 obtain rfl:B=L:=(nb_eq hB).trans hL.out.symm
 clear hB
 obtain ⟨cd0,cd1,cd2⟩:=kd.cell
 obtain ⟨cr0,cr1,cr2⟩:=kr.cell
 obtain ⟨fr0,fr1,fr2⟩:=kr.frozen
 go_wp2_with fail
 refine (shr_any A n c x D w1 s1 (by omega) (by omega)).mono ?_
 rintro e' w2 ⟨v2,rfl,n2,b⟩
 have b2:=bB.trans (b.mono bB.size)
 have kd2:=kd.below b (by omega)
 have kr2:=kr.below b (by omega)
 have s2:=s1.below b
 have t2:=t1.below b
 have hsz2:w.heap.size+2≤w2.heap.size:=by have:=b.size;omega
 clear b s1 t1 kd kr cd0 cd1 cd2 cr0 cr1 cr2 fr0 fr1 fr2 hsz hT
 obtain ⟨A2,p2,c2,f2,rfl,q2,lp2,cn2,e2⟩:=n2.sl' (Nat.lt_of_le_of_lt (Nat.div_le_self _ _) KX.out)
 have E2:=Lib.hid e2
 clear n2 e2
 have QL:Hid (vs B64 x n/2^D < 2^p∨D=0):=Lib.hid (by
  rcases Nat.eq_zero_or_pos D with h | h
  · exact .inr h
  · refine .inl ((nb_le_iff _ _).1 ?_)
    rw [nb_div_pow,← hL.out]
    have:=hD.out;omega)
 obtain ⟨cd0,cd1,cd2⟩:=kd2.cell
 obtain ⟨cr0,cr1,cr2⟩:=kr2.cell
 have KM:Hid (vs B64 x n/2^D*2^D < B64^n):=Lib.hid (Nat.lt_of_le_of_lt (Nat.div_mul_le_self _ _) KX.out)
 have SHL:Hid (∀ w',Sl w' A2 p2 c2 f2→Calls Tryz.prog 123 #[.slice A2 p2 c2,.int .i64 (D:Int)] w' fun e w''=>∃ A4 p4 c4 f4,e=.returned (.slice A4 p4 c4)∧Sl w'' A4 p4 c4 f4∧p4≤n∧Hid (vs B64 f4 p4=vs B64 x n/2^D*2^D)∧Below w'.heap.size w' w''):=Lib.hid (fun w' h=>by
  refine (shl_any A2 p2 c2 f2 D w' h (by omega) (by omega)).mono ?_
  rintro e' w4 ⟨v4,rfl,n4,b⟩
  rw [E2.out] at n4
  obtain ⟨A4,p4,c4,f4,rfl,q4,lp4,_,e4⟩:=n4.sl' KM.out
  exact ⟨A4,p4,c4,f4,rfl,q4,lp4,Lib.hid e4,b⟩)
 have hg1:w.heap.size < w2.heap.size:=by omega
 have KQ1:Hid (vs B64 x n/2^D+1 < B64^(n+1)):=Lib.hid (by have:=few_lt 1 (by omega) KX.out;have:=Nat.div_le_self (vs B64 x n) (2^D);omega)
 have KQ1:Hid (vs B64 x n/2^D+1 < B64^(n+1)):=Lib.hid (by have:=few_lt 1 (by omega) KX.out;have:=Nat.div_le_self (vs B64 x n) (2^D);omega)
 have KQ1:Hid (vs B64 x n/2^D+1 < B64^(n+1)):=Lib.hid (by have:=few_lt 1 (by omega) KX.out;have:=Nat.div_le_self (vs B64 x n) (2^D);omega)
 have KQ1:Hid (vs B64 x n/2^D+1 < B64^(n+1)):=Lib.hid (by have:=few_lt 1 (by omega) KX.out;have:=Nat.div_le_self (vs B64 x n) (2^D);omega)
 cases more
 · go_wp2_with fail
   go_region_held3 (fun w'=>w'.cell? ⟨w.heap.size,1,none⟩=some (.slice A n c)) (first | go_keep | exact (b4.cell (by first | exact hg1 | (simp;omega))).trans cd1 | exact (b5.cell (by have:=b4.size;simp at this ⊢;omega)).trans ((b4.cell (by first | exact hg1 | (simp;omega))).trans cd1))
    (first
     | (go_at_call 123;refine (SHL.out _ (by first | exact q2 | exact q2.drew)).mono ?_;rintro e' w4 ⟨A4,p4,c4,f4,rfl,q4,lp4,E4,b4⟩)
     | (go_at_call 122;refine (cmp_any A4 A p4 n c4 c f4 x _ (by exact q4) (by exact s2.drew.below b4) (by omega) (by omega)).mono ?_;rintro e' w5 ⟨rfl,b5⟩))
   have b25:Below w2.heap.size w2 w5:=Below.trans (show Below w2.heap.size w2 w4 from ⟨b4.os,b4.tape,b4.output,b4.size,b4.block⟩) (b5.mono b4.size)
   have bC:=b2.trans (b25.mono b2.size)
   have qC:=q2.below b25
   have tC:=t2.below b25
   have kdC:=kd2.below b25 (by omega)
   have krC:=kr2.below b25 (by omega)
   have hC:w.heap.size+2≤w5.heap.size:=by have:=b25.size;omega
   clear b25 b4 b5 q4 kd2 kr2 s2 t2 q2 cd0 cd1 cd2 cr0 cr1 cr2 SHL
   obtain ⟨cd0,cd1,cd2⟩:=kdC.cell
   rw [E4.out]
   generalize w5=wC at *
   by_cases hK:vs B64 x n/2^D*2^D=vs B64 x n
   · have HR:=Lib.hid (kept_one (p:=p) hL.out e neg false up false (by rw [← hD.out];simp [hK]))
     rw [← hD.out] at HR
     simp only [Bool.false_eq_true,if_false,Nat.add_zero] at HR
     rw [hK,cmpN_eq]
     clear hK KM E4
     go_wp2_with fail
     have MK:=make_any neg A2 p2 c2 f2 (e+(D:Int)) wC qC (by omega) tC (by omega) (by omega)
     rw [E2.out] at MK
     have HMK:=Lib.hid MK
     clear MK
     refine HMK.out.mono ?_
     rintro e' w9 ⟨v9,rfl,n9,b9⟩
     have bF:=bC.trans (b9.mono bC.size)
     have kF:=krC.below b9 (by omega)
     obtain ⟨cF0,cF1,cF2⟩:=kF.cell
     obtain ⟨fF0,fF1,fF2⟩:=kF.frozen
     clear HMK b9
     generalize mkD neg (vs B64 x n/2^D) (e+(D:Int))=r at *
     obtain ⟨A9,p9,c9,f9,rfl,m9⟩:=n9
     go_wp2_with fail
     rw [HR.out]
     refine bodyPost_ret (v:=.tuple #[.agg #[.bool r.neg,.slice A9 p9 c9,.int .i64 r.e],.bool r.ok]) (by simp [results,Tryz.results184,go_sem,cF0,cF1,cF2]) rfl
      ⟨_,rfl,Num.put3 ⟨A9,p9,c9,f9,rfl,m9⟩ kF (notU_bool _) (notU_slice _ _ _) (notU_int _) _ _ _,below_put3 bF (by omega) bF.size _ _ _⟩
   · obtain ⟨r0,hr0,hr1⟩:∃ r0:Int,cmpN (vs B64 x n/2^D*2^D) (vs B64 x n)=r0∧(r0 != 0)=true:=by
      refine ⟨_,rfl,?_⟩
      have h1:=Nat.div_mul_le_self (vs B64 x n) (2^D)
      rw [cmpN_lt (by omega)];rfl
     rw [hr0]
     have HNE:=Lib.hid hK
     clear hr0 hK KM E4
     by_cases hun:up=neg
     · subst hun
       have HR:=Lib.hid (kept_one (p:=p) hL.out e up false up false (by simp))
       rw [← hD.out] at HR
       simp only [Bool.false_eq_true,if_false,Nat.add_zero] at HR
       go_wp2_with fail
       have MK:=make_any up A2 p2 c2 f2 (e+(D:Int)) wC qC (by omega) tC (by omega) (by omega)
       rw [E2.out] at MK
       have HMK:=Lib.hid MK
       clear MK
       refine HMK.out.mono ?_
       rintro e' w9 ⟨v9,rfl,n9,b9⟩
       have bF:=bC.trans (b9.mono bC.size)
       have kF:=krC.below b9 (by omega)
       obtain ⟨cF0,cF1,cF2⟩:=kF.cell
       obtain ⟨fF0,fF1,fF2⟩:=kF.frozen
       clear HMK b9
       generalize mkD up (vs B64 x n/2^D) (e+(D:Int))=r at *
       obtain ⟨A9,p9,c9,f9,rfl,m9⟩:=n9
       go_wp2_with fail
       rw [HR.out]
       refine bodyPost_ret (v:=.tuple #[.agg #[.bool r.neg,.slice A9 p9 c9,.int .i64 r.e],.bool r.ok]) (by simp [results,Tryz.results184,go_sem,cF0,cF1,cF2]) rfl
        ⟨_,rfl,Num.put3 ⟨A9,p9,c9,f9,rfl,m9⟩ kF (notU_bool _) (notU_slice _ _ _) (notU_int _) _ _ _,below_put3 bF (by omega) bF.size _ _ _⟩
     · have hun1:(up == neg)=false:=by simpa using hun
       have HR:=Lib.hid (kept_one (p:=p) hL.out e neg false up true (by rw [← hD.out,bne,hun1];simpa using HNE.out))
       rw [← hD.out] at HR
       simp only [if_true] at HR
       go_wp2_with fail
       have bA3:Below wC.heap.size wC (wC.alloc (.cells #[.int .u64 ((1:Nat):Int)] 51)):=(Below.refl _ wC).alloc (Nat.le_refl _) _
       have o3:=one_sl 51 wC 1 (by unfold B64;omega)
       have AD:=add_any A2 _ p2 1 c2 1 f2 (fun _=>1) _ (qC.below bA3) o3 (by omega) (by omega)
       rw [E2.out,vs_one] at AD
       have HAD:=Lib.hid AD
       clear AD
       refine HAD.out.mono ?_
       rintro e' w7 ⟨v7,rfl,n7,b⟩
       have b37:=bA3.trans (b.mono bA3.size)
       have b7:=bC.trans (b37.mono bC.size)
       have t7:=tC.below b37
       have kr7:=krC.below b37 (by omega)
       obtain ⟨c70,c71,c72⟩:=(kdC.below b37 (by omega)).cell
       have h7:w.heap.size+2≤w7.heap.size:=by have:=b37.size;omega
       obtain ⟨A7,p7,c7,f7,rfl,q7,lp7,_,e7⟩:=n7.sl' KQ1.out
       have E7:=Lib.hid e7
       clear b b37 n7 e7 HAD o3 bA3 tC krC kdC cd0 cd1 cd2 qC
       go_wp2_with fail
       have MK:=make_any neg A7 p7 c7 f7 (e+(D:Int)) w7 q7 (by omega) t7 (by omega) (by omega)
       rw [E7.out] at MK
       have HMK:=Lib.hid MK
       clear MK
       refine HMK.out.mono ?_
       rintro e' w9 ⟨v9,rfl,n9,b9⟩
       have bF:=b7.trans (b9.mono b7.size)
       have kF:=kr7.below b9 (by omega)
       obtain ⟨cF0,cF1,cF2⟩:=kF.cell
       obtain ⟨fF0,fF1,fF2⟩:=kF.frozen
       clear HMK b9
       generalize mkD neg (vs B64 x n/2^D+1) (e+(D:Int))=r at *
       obtain ⟨A9,p9,c9,f9,rfl,m9⟩:=n9
       go_wp2_with fail
       rw [HR.out]
       refine bodyPost_ret (v:=.tuple #[.agg #[.bool r.neg,.slice A9 p9 c9,.int .i64 r.e],.bool r.ok]) (by simp [results,Tryz.results184,go_sem,cF0,cF1,cF2]) rfl
        ⟨_,rfl,Num.put3 ⟨A9,p9,c9,f9,rfl,m9⟩ kF (notU_bool _) (notU_slice _ _ _) (notU_int _) _ _ _,below_put3 bF (by omega) bF.size _ _ _⟩
 · go_wp2_with fail
   go_quiet (fail)
   have bC:Below w.heap.size w (w2.drewN nq):=below_drewN b2 nq
   have qC:=q2.drewN nq
   have tC:Tab (w2.drewN nq):=t2
   have kdC:Blk3 (w2.drewN nq) w.heap.size (.bool neg) (.slice A n c) (.int .i64 e):=kd2
   have krC:Blk3 (w2.drewN nq) (w.heap.size+1) (.bool false) (.slice none 0 0) (.int .i64 0):=kr2
   have hC:w.heap.size+2≤(w2.drewN nq).heap.size:=hsz2
   clear kd2 kr2 s2 t2 q2 cd0 cd1 cd2 cr0 cr1 cr2 SHL KM
   obtain ⟨cd0,cd1,cd2⟩:=kdC.cell
   generalize w2.drewN nq=wC at *
   by_cases hun:up=neg
   · subst hun
     have HR:=Lib.hid (kept_one (p:=p) hL.out e up true up false (by simp))
     rw [← hD.out] at HR
     simp only [Bool.false_eq_true,if_false,Nat.add_zero] at HR
     go_wp2_with fail
     have MK:=make_any up A2 p2 c2 f2 (e+(D:Int)) wC qC (by omega) tC (by omega) (by omega)
     rw [E2.out] at MK
     have HMK:=Lib.hid MK
     clear MK
     refine HMK.out.mono ?_
     rintro e' w9 ⟨v9,rfl,n9,b9⟩
     have bF:=bC.trans (b9.mono bC.size)
     have kF:=krC.below b9 (by omega)
     obtain ⟨cF0,cF1,cF2⟩:=kF.cell
     obtain ⟨fF0,fF1,fF2⟩:=kF.frozen
     clear HMK b9
     generalize mkD up (vs B64 x n/2^D) (e+(D:Int))=r at *
     obtain ⟨A9,p9,c9,f9,rfl,m9⟩:=n9
     go_wp2_with fail
     rw [HR.out]
     refine bodyPost_ret (v:=.tuple #[.agg #[.bool r.neg,.slice A9 p9 c9,.int .i64 r.e],.bool r.ok]) (by simp [results,Tryz.results184,go_sem,cF0,cF1,cF2]) rfl
      ⟨_,rfl,Num.put3 ⟨A9,p9,c9,f9,rfl,m9⟩ kF (notU_bool _) (notU_slice _ _ _) (notU_int _) _ _ _,below_put3 bF (by omega) bF.size _ _ _⟩
   · have hun1:(up == neg)=false:=by simpa using hun
     have HR:=Lib.hid (kept_one (p:=p) hL.out e neg true up true (by rw [bne,hun1];simp))
     rw [← hD.out] at HR
     simp only [if_true] at HR
     go_wp2_with fail
     have bA3:Below wC.heap.size wC (wC.alloc (.cells #[.int .u64 ((1:Nat):Int)] 51)):=(Below.refl _ wC).alloc (Nat.le_refl _) _
     have o3:=one_sl 51 wC 1 (by unfold B64;omega)
     have AD:=add_any A2 _ p2 1 c2 1 f2 (fun _=>1) _ (qC.below bA3) o3 (by omega) (by omega)
     rw [E2.out,vs_one] at AD
     have HAD:=Lib.hid AD
     clear AD
     refine HAD.out.mono ?_
     rintro e' w7 ⟨v7,rfl,n7,b⟩
     have b37:=bA3.trans (b.mono bA3.size)
     have b7:=bC.trans (b37.mono bC.size)
     have t7:=tC.below b37
     have kr7:=krC.below b37 (by omega)
     obtain ⟨c70,c71,c72⟩:=(kdC.below b37 (by omega)).cell
     have h7:w.heap.size+2≤w7.heap.size:=by have:=b37.size;omega
     obtain ⟨A7,p7,c7,f7,rfl,q7,lp7,_,e7⟩:=n7.sl' KQ1.out
     have E7:=Lib.hid e7
     clear b b37 n7 e7 HAD o3 bA3 tC krC kdC cd0 cd1 cd2 qC
     go_wp2_with fail
     have MK:=make_any neg A7 p7 c7 f7 (e+(D:Int)) w7 q7 (by omega) t7 (by omega) (by omega)
     rw [E7.out] at MK
     have HMK:=Lib.hid MK
     clear MK
     refine HMK.out.mono ?_
     rintro e' w9 ⟨v9,rfl,n9,b9⟩
     have bF:=b7.trans (b9.mono b7.size)
     have kF:=kr7.below b9 (by omega)
     obtain ⟨cF0,cF1,cF2⟩:=kF.cell
     obtain ⟨fF0,fF1,fF2⟩:=kF.frozen
     clear HMK b9
     generalize mkD neg (vs B64 x n/2^D+1) (e+(D:Int))=r at *
     obtain ⟨A9,p9,c9,f9,rfl,m9⟩:=n9
     go_wp2_with fail
     rw [HR.out]
     refine bodyPost_ret (v:=.tuple #[.agg #[.bool r.neg,.slice A9 p9 c9,.int .i64 r.e],.bool r.ok]) (by simp [results,Tryz.results184,go_sem,cF0,cF1,cF2]) rfl
      ⟨_,rfl,Num.put3 ⟨A9,p9,c9,f9,rfl,m9⟩ kF (notU_bool _) (notU_slice _ _ _) (notU_int _) _ _ _,below_put3 bF (by omega) bF.size _ _ _⟩
end Go.Proofs.YtmbmohibpkepdaaGreatDoor
namespace Go.Proofs.YtmbmohibpkepdaaGreatDoor
open Go.RowKit
structure F3 (w w1:World) (na:Bool) (A:Option Addr) (n c:Nat) (ea:Int) (nb':Bool) (B:Option Addr) (m d:Nat) (eb:Int):Prop where
 bel:Below w.heap.size w w1
 ka:Blk3 w1 w.heap.size (.bool na) (.slice A n c) (.int .i64 ea)
 kb:Blk3 w1 (w.heap.size+1) (.bool nb') (.slice B m d) (.int .i64 eb)
 kr:Blk3 w1 (w.heap.size+1+1) (.bool false) (.slice none 0 0) (.int .i64 0)
 sz:w.heap.size+3≤w1.heap.size
 tab:Tab w1
structure F2 (w w1:World) (na:Bool) (A:Option Addr) (n c:Nat) (ea:Int):Prop where
 bel:Below w.heap.size w w1
 ka:Blk3 w1 w.heap.size (.bool na) (.slice A n c) (.int .i64 ea)
 kr:Blk3 w1 (w.heap.size+1) (.bool false) (.slice none 0 0) (.int .i64 0)
 sz:w.heap.size+2≤w1.heap.size
 tab:Tab w1
section
variable {w w1 w2:World} {na nb':Bool} {A B:Option Addr} {n c m d:Nat} {ea eb:Int}
theorem F3.adv (h:F3 w w1 na A n c ea nb' B m d eb) (b:Below w1.heap.size w1 w2):F3 w w2 na A n c ea nb' B m d eb:=by
 have:=h.sz
 exact ⟨h.bel.trans (b.mono h.bel.size),h.ka.below b (by omega),h.kb.below b (by omega),h.kr.below b (by omega),Nat.le_trans h.sz b.size,h.tab.below b⟩
theorem F2.adv (h:F2 w w1 na A n c ea) (b:Below w1.heap.size w1 w2):F2 w w2 na A n c ea:=by
 have:=h.sz
 exact ⟨h.bel.trans (b.mono h.bel.size),h.ka.below b (by omega),h.kr.below b (by omega),Nat.le_trans h.sz b.size,h.tab.below b⟩
theorem F3.drew (h:F3 w w1 na A n c ea nb' B m d eb):F3 w w1.drew na A n c ea nb' B m d eb:=⟨h.bel.drew,h.ka,h.kb,h.kr,h.sz,h.tab⟩
end
theorem F2.start (w:World) (na:Bool) (A:Option Addr) (n c:Nat) (ea:Int) (hT:Tab w) :
 F2 w ((w.alloc (.cells #[.bool na,.slice A n c,.int .i64 ea] 24)).alloc (.cells #[.bool false,.slice none 0 0,.int .i64 0] 24)) na A n c ea:=by
 have bA:Below w.heap.size w (w.alloc (.cells #[.bool na,.slice A n c,.int .i64 ea] 24)):=(Below.refl _ w).alloc (Nat.le_refl _) _
 have bB:=bA.alloc bA.size (.cells #[.bool false,.slice none 0 0,.int .i64 0] 24)
 have kd:=(Blk3.made w (.bool na) (.slice A n c) (.int .i64 ea)).below ((Below.refl (w.heap.size+1) _).alloc (by simp) (.cells #[.bool false,.slice none 0 0,.int .i64 0] 24)) (by simp)
 have kr:=Blk3.made (w.alloc (.cells #[.bool na,.slice A n c,.int .i64 ea] 24)) (.bool false) (.slice none 0 0) (.int .i64 0)
 rw [show (w.alloc (.cells #[.bool na,.slice A n c,.int .i64 ea] 24)).heap.size=w.heap.size+1 by simp] at kr
 exact ⟨bB,kd,kr,by simp,hT.below bB⟩
theorem F3.start (w:World) (na:Bool) (A:Option Addr) (n c:Nat) (ea:Int) (nb':Bool) (B:Option Addr) (m d:Nat) (eb:Int) (hT:Tab w) :
 F3 w (((w.alloc (.cells #[.bool na,.slice A n c,.int .i64 ea] 24)).alloc (.cells #[.bool nb',.slice B m d,.int .i64 eb] 24)).alloc (.cells #[.bool false,.slice none 0 0,.int .i64 0] 24)) na A n c ea nb' B m d eb:=by
 have bA:Below w.heap.size w (w.alloc (.cells #[.bool na,.slice A n c,.int .i64 ea] 24)):=(Below.refl _ w).alloc (Nat.le_refl _) _
 have bB:=bA.alloc bA.size (.cells #[.bool nb',.slice B m d,.int .i64 eb] 24)
 have bC:=bB.alloc bB.size (.cells #[.bool false,.slice none 0 0,.int .i64 0] 24)
 have ka:=((Blk3.made w (.bool na) (.slice A n c) (.int .i64 ea)).below ((Below.refl (w.heap.size+1) _).alloc (by simp) (.cells #[.bool nb',.slice B m d,.int .i64 eb] 24)) (by simp)).below
  ((Below.refl (w.heap.size+1) _).alloc (by simp) (.cells #[.bool false,.slice none 0 0,.int .i64 0] 24)) (by simp)
 have kb:=(Blk3.made (w.alloc (.cells #[.bool na,.slice A n c,.int .i64 ea] 24)) (.bool nb') (.slice B m d) (.int .i64 eb)).below ((Below.refl (w.heap.size+2) _).alloc (by simp) (.cells #[.bool false,.slice none 0 0,.int .i64 0] 24)) (by simp)
 have kr:=Blk3.made ((w.alloc (.cells #[.bool na,.slice A n c,.int .i64 ea] 24)).alloc (.cells #[.bool nb',.slice B m d,.int .i64 eb] 24)) (.bool false) (.slice none 0 0) (.int .i64 0)
 rw [show (w.alloc (.cells #[.bool na,.slice A n c,.int .i64 ea] 24)).heap.size=w.heap.size+1 by simp] at kb
 rw [show ((w.alloc (.cells #[.bool na,.slice A n c,.int .i64 ea] 24)).alloc (.cells #[.bool nb',.slice B m d,.int .i64 eb] 24)).heap.size=w.heap.size+1+1 by simp] at kr
 exact ⟨bC,ka,kb,kr,by simp,hT.below bC⟩
structure PlainF (neg:Bool) (n:Nat) (x:Nat→Nat) (e:Int):Prop where
 len:n≤256
 cn:Cn n x
 bits:nb (vs B64 x n)≤16384
 e1:-262144≤e
 e2:e≤262144
 zero:n=0→e=0∧neg=false
 odd:0 < n→vs B64 x n%2=1
theorem nb_lt_words {V n:Nat} (h:nb V≤64*n):V < B64^n:=by rw [B64_pow,← Nat.pow_mul];exact (nb_le_iff _ _).1 h
theorem vs_odd {x:Nat→Nat} {n:Nat} (h:x 0%2=1):vs B64 x (n+1)%2=1:=by
 rw [vs_cons,B64_pow,show (2:Nat)^64=2*2^63 by decide,Nat.mul_assoc,Nat.add_mul_mod_self_left];exact h
theorem plain_facts {neg:Bool} {n:Nat} {x:Nat→Nat} {e:Int} (h:plainB neg n x e=true):PlainF neg n x e:=by
 unfold plainB at h
 rcases n with _ | n
 · simp only [if_true] at h
   simp at h
   obtain ⟨rfl,rfl⟩:=h
   exact ⟨by omega,.inl rfl,by rw [vs_zero,nb_zero];omega,by omega,by omega,fun _=>⟨rfl,rfl⟩,fun h=>absurd h (by omega)⟩
 · rw [if_neg (by omega)] at h
   simp only [Nat.add_sub_cancel,Bool.and_eq_true,decide_eq_true_eq] at h
   obtain ⟨⟨⟨h1,h2⟩,h3⟩,h4⟩:=h
   have hc:Cn (n+1) x:=.inr (by simpa using h2)
   rw [MB_eq] at h3
   refine ⟨?_,hc,h3,h4.1,h4.2,fun h=>absurd h (by omega),fun _=>vs_odd h1⟩
   exact cn_le B64_gt hc (nb_lt_words (n:=256) (by omega))
theorem PlainF.pos {neg:Bool} {n:Nat} {x:Nat→Nat} {e:Int} (h:PlainF neg n x e):0 < n ↔ 0 < vs B64 x n:=by
 constructor
 · intro hn;have:=h.odd hn;omega
 · intro hv
   rcases Nat.eq_zero_or_pos n with h0 | h0
   · subst h0;rw [vs_zero] at hv;omega
   · exact h0
end Go.Proofs.YtmbmohibpkepdaaGreatDoor
namespace Go.Proofs.YtmbmohibpkepdaaGreatDoor
open Go.RowKit
theorem rem_two (x:Nat):(x:Int)%2=((x%2:Nat):Int):=by omega
theorem long_nb {n:Nat} {x:Nat→Nat} (h:x n≠0) (hn:256 < n+1):¬ nb (vs B64 x (n+1))≤MB:=fun hb=>by
 rw [MB_eq] at hb
 have h1:=vs_ge (b:=B64) (n:=n+1) (f:=x) (.inr (by simpa using h)) (by omega)
 have h2:vs B64 x (n+1) < B64^256:=nb_lt_words (by omega)
 have h3:B64^(n+1-1) < B64^256:=by omega
 have:=(Nat.pow_lt_pow_iff_right B64_gt).1 h3
 omega
theorem rplain_none (neg:Bool) (A:Option Addr) (c:Nat) (x:Nat→Nat) (e:Int) (w:World) :
 Calls Tryz.prog 41 #[dyv neg A 0 c e] w (BoolPost w (plainB neg 0 x e)):=by
 have b1:Below w.heap.size w (w.alloc (.cells #[.bool neg,.slice A 0 c,.int .i64 e] 24)):=(Below.refl _ w).alloc (Nat.le_refl _) _
 by_cases h:e=0
 · subst h
   cases neg
   · go_enter Tryz.func41,Tryz.ntmps41
     go_wp2_with fail
     go_ret
     exact ⟨rfl,b1⟩
   · go_enter Tryz.func41,Tryz.ntmps41
     go_wp2_with fail
     go_ret
     exact ⟨rfl,b1⟩
 · have hd:plainB neg 0 x e=false:=by simp [plainB,h]
   have he:(e == 0)=false:=by simp [h]
   rw [hd]
   go_enter Tryz.func41,Tryz.ntmps41
   go_wp2_with fail
   go_ret
   exact ⟨rfl,b1⟩
set_option maxRecDepth 8000 in
set_option maxHeartbeats 2000000 in
theorem rplain_any (neg:Bool) (A:Option Addr) (n c:Nat) (x:Nat→Nat) (e:Int) (w:World) (ha:Sl w A n c x) (hn:n≤400000) :
 Calls Tryz.prog 41 #[dyv neg A n c e] w (BoolPost w (plainB neg n x e)):=by
 rcases n with _ | n
 · exact rplain_none neg A c x e w
 · obtain ⟨ad,rfl,hab,hx0,hc0⟩:=ha.at_ (k:=0) (by omega)
   obtain ⟨ad',e1,_,hx1,hc1⟩:=ha.at_ (k:=n) (by omega)
   obtain rfl:ad=ad':=by injection e1
   clear e1
   rw [show ad.add 0=ad from by simp [Addr.add]] at hc0
   have hab1:(ad.add n).block < w.heap.size:=by rw [block_of_add];exact hab
   have b1:Below w.heap.size w (w.alloc (.cells #[.bool neg,.slice (some ad) (n+1) c,.int .i64 e] 24)):=(Below.refl _ w).alloc (Nat.le_refl _) _
   have k1:=Blk3.made w (.bool neg) (.slice (some ad) (n+1) c) (.int .i64 e)
   have hgs:w.heap.size < (w.alloc (.cells #[.bool neg,.slice (some ad) (n+1) c,.int .i64 e] 24)).heap.size:=by simp
   have hB:=rbits_any (some ad) (n+1) c x _ (ha.below b1) (by omega)
   have hn1:((n:Int)+1 == 0)=false:=by simp;omega
   have hrem:=rem_two (x 0)
   have HB:=Lib.hid hB
   have hspec:plainB neg (n+1) x e=(decide (x 0%2=1) && decide (x n≠0) && decide (nb (vs B64 x (n+1))≤MB) && decide (fitE e)):=by
    unfold plainB;rw [if_neg (by omega),Nat.add_sub_cancel]
   clear hB
   have hb2:x 0%2 < 2:=Nat.mod_lt _ (by omega)
   by_cases h2:x n=0
   · rw [hspec,show (decide (x 0%2=1) && decide (x n≠0) && decide (nb (vs B64 x (n+1))≤MB) && decide (fitE e))=false by simp [h2]]
     rw [h2] at hc1
     clear hspec
     go_enter Tryz.func41,Tryz.ntmps41
     go_wp2_with fail
     go_ret
     exact ⟨rfl,b1⟩
   · have hne:((x n:Int) != 0)=true:=by simp;omega
     have hlong:=Lib.hid (fun h=>long_nb (x:=x) h2 (h:256 < n+1))
     by_cases h1:x 0%2=1
     · rw [hspec,show (decide (x 0%2=1) && decide (x n≠0) && decide (nb (vs B64 x (n+1))≤MB) && decide (fitE e))=(decide (nb (vs B64 x (n+1))≤MB) && decide (fitE e)) by simp [h1,h2]]
       have hr1:(((x 0%2:Nat):Int) == 1)=true:=by rw [h1];rfl
       clear hspec hb2 h1
       generalize x 0%2=rm at *
       generalize x n=yn at *
       generalize x 0=y0 at *
       generalize vs B64 x (n+1)=V at *
       by_cases h256:n+1≤256
       · go_enter Tryz.func41,Tryz.ntmps41
         go_wp2_with fail
         refine HB.out.mono ?_
         rintro e' w2 ⟨L,rfl,hL,b⟩
         obtain rfl:=nb_eq hL
         have b2:=b1.trans (b.mono b1.size)
         obtain ⟨c0,c1,c2⟩:=(k1.below b hgs).cell
         clear b hL k1 HB
         generalize nb V=L at *
         by_cases h3:L≤MB
         · have h3':=h3
           rw [MB_eq] at h3'
           by_cases h4:-262144≤e
           · by_cases h5:e≤262144
             · have hd:=Lib.hid (show (decide (L≤MB) && decide (fitE e))=true by simp [h3,fitE,h4,h5])
               go_wp2_with fail
               go_ret
               exact ⟨by rw [hd.out];rfl,b2⟩
             · have hd:=Lib.hid (show (decide (L≤MB) && decide (fitE e))=false by rw [decide_eq_false (fun h:fitE e=>h5 h.2),Bool.and_false])
               have h5b:decide (e≤262144)=false:=decide_eq_false h5
               go_wp2_with fail
               go_ret
               exact ⟨by rw [hd.out];rfl,b2⟩
           · have hd:=Lib.hid (show (decide (L≤MB) && decide (fitE e))=false by rw [decide_eq_false (fun h:fitE e=>h4 h.1),Bool.and_false])
             have hd2:=Lib.hid (decide_eq_false (fun h:fitE e=>h4 h.1))
             go_wp2_with fail
             go_ret
             exact ⟨by first | (rw [hd.out];rfl) | (rw [hd2.out];rfl),b2⟩
         · have hd:=Lib.hid (show (decide (L≤MB) && decide (fitE e))=false by simp [h3])
           rw [MB_eq] at h3
           go_wp2_with fail
           go_ret
           exact ⟨by rw [hd.out];rfl,b2⟩
       · have hd:=Lib.hid (show (decide (nb V≤MB) && decide (fitE e))=false by simp [hlong.out (by omega)])
         rw [hd.out]
         go_enter Tryz.func41,Tryz.ntmps41
         go_wp2_with fail
         go_ret
         exact ⟨rfl,b1⟩
     · rw [hspec,show (decide (x 0%2=1) && decide (x n≠0) && decide (nb (vs B64 x (n+1))≤MB) && decide (fitE e))=false by simp [h1]]
       obtain h0:x 0%2=0:=by omega
       rw [h0] at hrem
       clear hspec
       go_enter Tryz.func41,Tryz.ntmps41
       go_wp2_with fail
       go_ret
       exact ⟨rfl,b1⟩
theorem dsame_any {v u:Value} {M:Nat} (neg:Bool) (e:Int) (w:World) (h1:Num w v M) (h2:Num w u M) (K:Nat) (hK:K≤1000000) (hM:M < B64^K) :
 Calls Tryz.prog 47 #[.agg #[.bool neg,v,.int .i64 e],.agg #[.bool neg,u,.int .i64 e]] w (TruePost w):=by
 obtain ⟨A,n,c,x,rfl,sx⟩:=h1
 obtain ⟨B,m,d,y,rfl,sy⟩:=h2
 have bA:Below w.heap.size w (w.alloc (.cells #[.bool neg,.slice A n c,.int .i64 e] 24)):=(Below.refl _ w).alloc (Nat.le_refl _) _
 have bB:=bA.alloc bA.size (.cells #[.bool neg,.slice B m d,.int .i64 e] 24)
 have SM:=Lib.hid (same_num _ (Num.below ⟨A,n,c,x,rfl,sx⟩ bB) (Num.below ⟨B,m,d,y,rfl,sy⟩ bB) K hK hM)
 go_enter Tryz.func47,Tryz.ntmps47
 go_wp2_with fail
 refine SM.out.mono ?_
 rintro e' w2 ⟨rfl,b⟩
 have b2:=bB.trans (b.mono bB.size)
 go_wp2_with fail
 go_ret
 exact ⟨rfl,b2⟩
end Go.Proofs.YtmbmohibpkepdaaGreatDoor
