/-
 span.number.cut.
 volvelleref03's Out.
 outward; Out of the code.
-/
import Derived.Test.YtmbmohibpkepdaaGreatDoorPlEGDy2
import Derived.Test.YtmbmohibpkepdaaGreatDoorPlEGDy10
import Derived.Test.YtmbmohibpkepdaaGreatDoorPlEGSp3
namespace Go.Proofs.YtmbmohibpkepdaaGreatDoor
open Go.RowKit
set_option maxHeartbeats 2000000 in
theorem ncut_any (neg:Bool) (A:Option Addr) (n c:Nat) (x:Nat→Nat) (e:Int) (p:Nat) (up:Bool) (w:World) (ha:Sl w A n c x) (hn:n≤16000) (hp:p≤8192) (hT:Tab w) (he1:-1000000000≤e) (he2:e≤1000000000) :
 Calls Tryz.prog 126 #[dyv neg A n c e,.int .i64 (p:Int),.bool up] w (DPost w (cutD neg (vs B64 x n) e false p up)):=by
 have bA:Below w.heap.size w (w.alloc (.cells #[.bool neg,.slice A n c,.int .i64 e] 78)):=(Below.refl _ w).alloc (Nat.le_refl _) _
 have bB:=bA.alloc bA.size (.cells #[.bool false,.slice none 0 0,.int .i64 0] 24)
 have kd:=(KC.made 78 w #[.bool neg,.slice A n c,.int .i64 e]).adv ((Below.refl _ _).alloc (Nat.le_refl _) (.cells #[.bool false,.slice none 0 0,.int .i64 0] 24))
 have kr:=Blk3.made (w.alloc (.cells #[.bool neg,.slice A n c,.int .i64 e] 78)) (.bool false) (.slice none 0 0) (.int .i64 0)
 rw [show (w.alloc (.cells #[.bool neg,.slice A n c,.int .i64 e] 78)).heap.size=w.heap.size+1 by simp] at kr
 have hsz:((w.alloc (.cells #[.bool neg,.slice A n c,.int .i64 e] 78)).alloc (.cells #[.bool false,.slice none 0 0,.int .i64 0] 24)).heap.size=w.heap.size+2:=by simp
 have hnb:=nb_words (vs_lt ha.small)
 have KX:=Lib.hid (vs_lt ha.small)
 obtain ⟨L,hL⟩:∃ L,Hid (L=nb (vs B64 x n)):=⟨_,Lib.hid rfl⟩
 rw [← hL.out] at hnb
 obtain ⟨D,hD⟩:∃ D,Hid (D=L-p):=⟨_,Lib.hid rfl⟩
 have hmax:max ((L:Int)-(p:Int)) 0=(D:Int):=by have:=hD.out;omega
 have hDn:D≤64*n:=by have:=hD.out;omega
 go_enter Tryz.func126,Tryz.ntmps126
 go_wp2_with fail
 generalize (w.alloc (.cells #[.bool neg,.slice A n c,.int .i64 e] 78)).alloc (.cells #[.bool false,.slice none 0 0,.int .i64 0] 24)=w1 at *
 have s1:=ha.below bB
 have t1:=hT.below bB
 refine (bits_same A n c x _ s1 (by omega)).mono ?_
 rintro e' w2 ⟨B,rfl,hB,rfl⟩
 obtain rfl:B=L:=(nb_eq hB).trans hL.out.symm
 clear hB
 have cd0:=kd.at_ 0 _ rfl
 have cd1:=kd.at_ 1 _ rfl
 have cd2:=kd.at_ 2 _ rfl
 obtain ⟨cr0,cr1,cr2⟩:=kr.cell
 obtain ⟨fr0,fr1,fr2⟩:=kr.frozen
 go_wp2_with fail
 refine (shr_any A n c x D w1 s1 (by omega) (by omega)).mono ?_
 rintro e' w2 ⟨v2,rfl,n2,b⟩
 have b2:=bB.trans (b.mono bB.size)
 have kd2:=kd.adv b
 have kr2:=kr.below b (by omega)
 have s2:=s1.below b
 have t2:=t1.below b
 have hsz2:w.heap.size+2≤w2.heap.size:=by have:=b.size;omega
 clear b s1 t1 kd kr cd0 cd1 cd2 cr0 cr1 cr2 fr0 fr1 fr2 hsz hT
 obtain ⟨A2,p2,c2,f2,rfl,q2,lp2,cn2,e2⟩:=n2.sl' (Nat.lt_of_le_of_lt (Nat.div_le_self _ _) KX.out)
 have E2:=Lib.hid e2
 clear n2 e2
 have QL:Hid (vs B64 x n/2^D < 2^p∨D=0):=Lib.hid (by
  rcases Nat.eq_zero_or_pos D with h | h
  · exact .inr h
  · refine .inl ((nb_le_iff _ _).1 ?_)
    rw [nb_div_pow,← hL.out]
    have:=hD.out;omega)
 have cd0:=kd2.at_ 0 _ rfl
 have cd1:=kd2.at_ 1 _ rfl
 have cd2:=kd2.at_ 2 _ rfl
 obtain ⟨cr0,cr1,cr2⟩:=kr2.cell
 have KM:Hid (vs B64 x n/2^D*2^D < B64^n):=Lib.hid (Nat.lt_of_le_of_lt (Nat.div_mul_le_self _ _) KX.out)
 have SHL:Hid (∀ w',Sl w' A2 p2 c2 f2→Calls Tryz.prog 123 #[.slice A2 p2 c2,.int .i64 (D:Int)] w' fun e w''=>∃ A4 p4 c4 f4,e=.returned (.slice A4 p4 c4)∧Sl w'' A4 p4 c4 f4∧p4≤n∧Hid (vs B64 f4 p4=vs B64 x n/2^D*2^D)∧Below w'.heap.size w' w''):=Lib.hid (fun w' h=>by
  refine (shl_any A2 p2 c2 f2 D w' h (by omega) (by omega)).mono ?_
  rintro e' w4 ⟨v4,rfl,n4,b⟩
  rw [E2.out] at n4
  obtain ⟨A4,p4,c4,f4,rfl,q4,lp4,_,e4⟩:=n4.sl' KM.out
  exact ⟨A4,p4,c4,f4,rfl,q4,lp4,Lib.hid e4,b⟩)
 have hg1:w.heap.size < w2.heap.size:=by omega
 have KQ1:Hid (vs B64 x n/2^D+1 < B64^(n+1)):=Lib.hid (by have:=few_lt 1 (by omega) KX.out;have:=Nat.div_le_self (vs B64 x n) (2^D);omega)
 have KQ1:Hid (vs B64 x n/2^D+1 < B64^(n+1)):=Lib.hid (by have:=few_lt 1 (by omega) KX.out;have:=Nat.div_le_self (vs B64 x n) (2^D);omega)
 have KQ1:Hid (vs B64 x n/2^D+1 < B64^(n+1)):=Lib.hid (by have:=few_lt 1 (by omega) KX.out;have:=Nat.div_le_self (vs B64 x n) (2^D);omega)
 have KQ1:Hid (vs B64 x n/2^D+1 < B64^(n+1)):=Lib.hid (by have:=few_lt 1 (by omega) KX.out;have:=Nat.div_le_self (vs B64 x n) (2^D);omega)
 go_wp2_with fail
 go_region_held3 (fun w'=>w'.cell? ⟨w.heap.size,1,none⟩=some (.slice A n c)) (first | go_keep | exact (b4.cell (by first | exact hg1 | (simp;omega))).trans cd1 | exact (b5.cell (by have:=b4.size;simp at this ⊢;omega)).trans ((b4.cell (by first | exact hg1 | (simp;omega))).trans cd1))
  (first
   | (go_at_call 123;refine (SHL.out _ (by first | exact q2 | exact q2.drew)).mono ?_;rintro e' w4 ⟨A4,p4,c4,f4,rfl,q4,lp4,E4,b4⟩)
   | (go_at_call 122;refine (cmp_any A4 A p4 n c4 c f4 x _ (by exact q4) (by exact s2.drew.below b4) (by omega) (by omega)).mono ?_;rintro e' w5 ⟨rfl,b5⟩))
 have b25:Below w2.heap.size w2 w5:=Below.trans (show Below w2.heap.size w2 w4 from ⟨b4.os,b4.tape,b4.output,b4.size,b4.block⟩) (b5.mono b4.size)
 have bC:=b2.trans (b25.mono b2.size)
 have qC:=q2.below b25
 have tC:=t2.below b25
 have kdC:=kd2.adv b25
 have krC:=kr2.below b25 (by omega)
 have hC:w.heap.size+2≤w5.heap.size:=by have:=b25.size;omega
 clear b25 b4 b5 q4 kd2 kr2 s2 t2 q2 cd0 cd1 cd2 cr0 cr1 cr2 SHL
 have cd0:=kdC.at_ 0 _ rfl
 have cd1:=kdC.at_ 1 _ rfl
 have cd2:=kdC.at_ 2 _ rfl
 rw [E4.out]
 generalize w5=wC at *
 by_cases hK:vs B64 x n/2^D*2^D=vs B64 x n
 · have HR:=Lib.hid (kept_one (p:=p) hL.out e neg false up false (by rw [← hD.out];simp [hK]))
   rw [← hD.out] at HR
   simp only [Bool.false_eq_true,if_false,Nat.add_zero] at HR
   rw [hK,cmpN_eq]
   clear hK KM E4
   go_wp2_with fail
   have MK:=make_any neg A2 p2 c2 f2 (e+(D:Int)) wC qC (by omega) tC (by omega) (by omega)
   rw [E2.out] at MK
   have HMK:=Lib.hid MK
   clear MK
   refine HMK.out.mono ?_
   rintro e' w9 ⟨v9,rfl,n9,b9⟩
   have bF:=bC.trans (b9.mono bC.size)
   have kF:=krC.below b9 (by omega)
   obtain ⟨cF0,cF1,cF2⟩:=kF.cell
   obtain ⟨fF0,fF1,fF2⟩:=kF.frozen
   clear HMK b9
   generalize mkD neg (vs B64 x n/2^D) (e+(D:Int))=r at *
   obtain ⟨A9,p9,c9,f9,rfl,m9⟩:=n9
   go_wp2_with fail
   rw [HR.out]
   refine bodyPost_ret (v:=.tuple #[.agg #[.bool r.neg,.slice A9 p9 c9,.int .i64 r.e],.bool r.ok]) (by simp [results,Tryz.results126,go_sem,cF0,cF1,cF2]) rfl
    ⟨_,rfl,Num.put3 ⟨A9,p9,c9,f9,rfl,m9⟩ kF (notU_bool _) (notU_slice _ _ _) (notU_int _) _ _ _,below_put3 bF (by omega) bF.size _ _ _⟩
 · obtain ⟨r0,hr0,hr1⟩:∃ r0:Int,cmpN (vs B64 x n/2^D*2^D) (vs B64 x n)=r0∧(r0 != 0)=true:=by
    refine ⟨_,rfl,?_⟩
    have h1:=Nat.div_mul_le_self (vs B64 x n) (2^D)
    rw [cmpN_lt (by omega)];rfl
   rw [hr0]
   have HNE:=Lib.hid hK
   clear hr0 hK KM E4
   by_cases hun:up=neg
   · subst hun
     have HR:=Lib.hid (kept_one (p:=p) hL.out e up false up false (by simp))
     rw [← hD.out] at HR
     simp only [Bool.false_eq_true,if_false,Nat.add_zero] at HR
     go_wp2_with fail
     have MK:=make_any up A2 p2 c2 f2 (e+(D:Int)) wC qC (by omega) tC (by omega) (by omega)
     rw [E2.out] at MK
     have HMK:=Lib.hid MK
     clear MK
     refine HMK.out.mono ?_
     rintro e' w9 ⟨v9,rfl,n9,b9⟩
     have bF:=bC.trans (b9.mono bC.size)
     have kF:=krC.below b9 (by omega)
     obtain ⟨cF0,cF1,cF2⟩:=kF.cell
     obtain ⟨fF0,fF1,fF2⟩:=kF.frozen
     clear HMK b9
     generalize mkD up (vs B64 x n/2^D) (e+(D:Int))=r at *
     obtain ⟨A9,p9,c9,f9,rfl,m9⟩:=n9
     go_wp2_with fail
     rw [HR.out]
     refine bodyPost_ret (v:=.tuple #[.agg #[.bool r.neg,.slice A9 p9 c9,.int .i64 r.e],.bool r.ok]) (by simp [results,Tryz.results126,go_sem,cF0,cF1,cF2]) rfl
      ⟨_,rfl,Num.put3 ⟨A9,p9,c9,f9,rfl,m9⟩ kF (notU_bool _) (notU_slice _ _ _) (notU_int _) _ _ _,below_put3 bF (by omega) bF.size _ _ _⟩
   · have hun1:(up == neg)=false:=by simpa using hun
     have HR:=Lib.hid (kept_one (p:=p) hL.out e neg false up true (by rw [← hD.out,bne,hun1];simpa using HNE.out))
     rw [← hD.out] at HR
     simp only [if_true] at HR
     go_wp2_with fail
     have bA3:Below wC.heap.size wC (wC.alloc (.cells #[.int .u64 ((1:Nat):Int)] 51)):=(Below.refl _ wC).alloc (Nat.le_refl _) _
     have o3:=one_sl 51 wC 1 (by unfold B64;omega)
     have AD:=add_any A2 _ p2 1 c2 1 f2 (fun _=>1) _ (qC.below bA3) o3 (by omega) (by omega)
     rw [E2.out,vs_one] at AD
     have HAD:=Lib.hid AD
     clear AD
     refine HAD.out.mono ?_
     rintro e' w7 ⟨v7,rfl,n7,b⟩
     have b37:=bA3.trans (b.mono bA3.size)
     have b7:=bC.trans (b37.mono bC.size)
     have t7:=tC.below b37
     have kr7:=krC.below b37 (by omega)
     have k7:=kdC.adv b37
     have c70:=k7.at_ 0 _ rfl
     have c71:=k7.at_ 1 _ rfl
     have c72:=k7.at_ 2 _ rfl
     clear k7
     have h7:w.heap.size+2≤w7.heap.size:=by have:=b37.size;omega
     obtain ⟨A7,p7,c7,f7,rfl,q7,lp7,_,e7⟩:=n7.sl' KQ1.out
     have E7:=Lib.hid e7
     clear b b37 n7 e7 HAD o3 bA3 tC krC kdC cd0 cd1 cd2 qC
     go_wp2_with fail
     have MK:=make_any neg A7 p7 c7 f7 (e+(D:Int)) w7 q7 (by omega) t7 (by omega) (by omega)
     rw [E7.out] at MK
     have HMK:=Lib.hid MK
     clear MK
     refine HMK.out.mono ?_
     rintro e' w9 ⟨v9,rfl,n9,b9⟩
     have bF:=b7.trans (b9.mono b7.size)
     have kF:=kr7.below b9 (by omega)
     obtain ⟨cF0,cF1,cF2⟩:=kF.cell
     obtain ⟨fF0,fF1,fF2⟩:=kF.frozen
     clear HMK b9
     generalize mkD neg (vs B64 x n/2^D+1) (e+(D:Int))=r at *
     obtain ⟨A9,p9,c9,f9,rfl,m9⟩:=n9
     go_wp2_with fail
     rw [HR.out]
     refine bodyPost_ret (v:=.tuple #[.agg #[.bool r.neg,.slice A9 p9 c9,.int .i64 r.e],.bool r.ok]) (by simp [results,Tryz.results126,go_sem,cF0,cF1,cF2]) rfl
      ⟨_,rfl,Num.put3 ⟨A9,p9,c9,f9,rfl,m9⟩ kF (notU_bool _) (notU_slice _ _ _) (notU_int _) _ _ _,below_put3 bF (by omega) bF.size _ _ _⟩
theorem ncutI {neg:Bool} {A:Option Addr} {n c V:Nat} {e:Int} (P:Nat) (up:Bool) (w:World) (h:Num w (.slice A n c) V) (hV:nb V≤1000000) (he1:-1000000000≤e) (he2:e≤1000000000) (hP:P≤8192) (hT:Tab w) :
 Calls Tryz.prog 126 #[dyv neg A n c e,.int .i64 (P:Int),.bool up] w (DP w (cutD neg V e false P up)):=by
 have l:=h.len 15625 (by omega)
 obtain ⟨_,_,_,x,hv,hs,hc,he⟩:=h
 cases hv
 have:=ncut_any neg A n c x e P up w hs (by omega) hP hT he1 he2
 rw [he] at this
 exact this.mono fun _ _ h=>h.dp
end Go.Proofs.YtmbmohibpkepdaaGreatDoor
namespace Go.Proofs.YtmbmohibpkepdaaGreatDoor
open Go.RowKit
def cutI (r:DR) (p:Int) (up:Bool):DR:=cutP (r.ok && bitsFitB p) r.neg r.m r.e p up
def outS (p:Int) (bad:Bool) (lo hi:DR):SRes:=twoS (bad1 p bad lo hi) (cutI lo p false) (cutI hi p true)
end Go.Proofs.YtmbmohibpkepdaaGreatDoor
namespace Go.Proofs.YtmbmohibpkepdaaGreatDoor
open Go.RowKit
variable {TW:TypeId}
abbrev cn3 (a b c:Value):Obj:=.cells #[a,b,c] 78
theorem stn {T:TypeId} {w:World} {g:Nat} {p:Int} {bad:Bool} (hW:Wk T w g p bad) (a b c a' b' c':Value) :
 St T w g p bad (((w.alloc (cn3 a b c)).alloc (cn3 a' b' c')).alloc z6) [(31,w.heap.size+1+1,zs),(78,w.heap.size+1,#[a',b',c']),(78,w.heap.size,#[a,b,c])] []:=by
 have h:=(((St.start hW).alloc 78 #[a,b,c]).alloc 78 #[a',b',c']).alloc 31 zs
 rw [show ((w.alloc (.cells #[a,b,c] 78)).alloc (.cells #[a',b',c'] 78)).heap.size=w.heap.size+1+1 by simp,show (w.alloc (.cells #[a,b,c] 78)).heap.size=w.heap.size+1 by simp] at h
 exact h
structure WideR (r:DR):Prop where
 bits:nb r.m≤1000000
 e1:-1000000000≤r.e
 e2:r.e≤1000000000
def outwS (P:Nat) (x y:DR):SRes:=keepS false (cutD x.neg x.m x.e false P false) (cutD y.neg y.m y.e false P true) ((cutD x.neg x.m x.e false P false).ok && (cutD y.neg y.m y.e false P true).ok)
set_option maxRecDepth 8000 in
set_option maxHeartbeats 4000000 in
theorem outward_any {x y:DR} {A B:Option Addr} {n c m d:Nat} (g P:Nat) (hP:P≤8192) (w:World) (hW:Wk TW w g (P:Int) false) (ha:Num w (.slice A n c) x.m) (hb:Num w (.slice B m d) y.m) (hx:WideR x) (hy:WideR y) (hT:Tab w) :
 Calls Tryz.prog 70 #[.pointer (some ⟨g,0,none⟩),dyv x.neg A n c x.e,dyv y.neg B m d y.e] w (SPost TW w g (P:Int) (outwS P x y)):=by
 have S:=stn hW (.bool x.neg) (.slice A n c) (.int .i64 x.e) (.bool y.neg) (.slice B m d) (.int .i64 y.e)
 have D1:Hid (∀ w',Only w w' g→Calls Tryz.prog 126 #[dyv x.neg A n c x.e,.int .i64 (P:Int),.bool false] w' (DP w' (cutD x.neg x.m x.e false P false))):=Lib.hid (fun w' o=>ncutI P false w' (num_wk hW o ha) hx.bits hx.e1 hx.e2 hP (hT.wk hW o))
 have D2:Hid (∀ w',Only w w' g→Calls Tryz.prog 126 #[dyv y.neg B m d y.e,.int .i64 (P:Int),.bool true] w' (DP w' (cutD y.neg y.m y.e false P true))):=Lib.hid (fun w' o=>ncutI P true w' (num_wk hW o hb) hy.bits hy.e1 hy.e2 hP (hT.wk hW o))
 have HT:Hid (outwS P x y=keepS false (cutD x.neg x.m x.e false P false) (cutD y.neg y.m y.e false P true) ((cutD x.neg x.m x.e false P false).ok && (cutD y.neg y.m y.e false P true).ok)):=Lib.hid rfl
 generalize cutD x.neg x.m x.e false P false=r1 at *
 generalize cutD y.neg y.m y.e false P true=r2 at *
 obtain ⟨p,hp⟩:∃ p:Int,p=(P:Int):=⟨_,rfl⟩
 rw [← hp] at hW S D1 D2
 rw [← hp]
 clear hp hx hy
 go_enter Tryz.func70,Tryz.ntmps70
 go_upto_region 1 with fail
 generalize ((w.alloc (cn3 (.bool x.neg) (.slice A n c) (.int .i64 x.e))).alloc (cn3 (.bool y.neg) (.slice B m d) (.int .i64 y.e))).alloc z6=w1 at *
 go_upto_region 1 with fail
 go_cut [7,8] (fun sd so wx=>∃ g0 A0 n0 c0,sd=.pointer (some ⟨g0,0,none⟩)∧so=.bool r1.ok∧w.heap.size≤g0∧St TW w g p false wx [(24,g0,#[.bool r1.neg,.slice A0 n0 c0,.int .i64 r1.e]),(31,w.heap.size+1+1,zs),(78,w.heap.size+1,#[.bool y.neg,.slice B m d,.int .i64 y.e]),(78,w.heap.size,#[.bool x.neg,.slice A n c,.int .i64 x.e])] [(.slice A0 n0 c0,r1.m)])
 case first =>
  have HC:Hid (∀ w',St TW w g p false w' [(31,w.heap.size+1+1,zs),(78,w.heap.size+1,#[.bool y.neg,.slice B m d,.int .i64 y.e]),(78,w.heap.size,#[.bool x.neg,.slice A n c,.int .i64 x.e])] []→w'.cell? ⟨w.heap.size,0,none⟩=some (.bool x.neg)∧w'.cell? ⟨w.heap.size,1,none⟩=some (.slice A n c)∧w'.cell? ⟨w.heap.size,2,none⟩=some (.int .i64 x.e)∧w'.cell? ⟨g,0,none⟩=some (.int .i64 p)):=Lib.hid (fun w' h=>⟨h.ks.2.2.1.1.at_ 0 _ rfl,h.ks.2.2.1.1.at_ 1 _ rfl,h.ks.2.2.1.1.at_ 2 _ rfl,h.wc.1⟩)
  have hz0:=S.ks.1.1.2
  have hz1:=S.ks.2.1.1.2
  have hz2:=S.ks.2.2.1.1.2
  have hz:w.heap.size≤w1.heap.size:=S.size
  have SD:=S.drew
  have SA:=SD.below (alloc_bel w1.drew (cd3 (.bool false) (.slice none 0 0) (.int .i64 0)))
  have X1:=HC.out _ SD
  clear S
  go_region_held3 (fun w'=>w'.cell? ⟨w.heap.size,0,none⟩=some (.bool x.neg)∧w'.cell? ⟨w.heap.size,1,none⟩=some (.slice A n c)∧w'.cell? ⟨w.heap.size,2,none⟩=some (.int .i64 x.e)∧w'.cell? ⟨g,0,none⟩=some (.int .i64 p))
   (first | exact X1 | exact HC.out _ (SD.below b1) | exact HC.out _ SA | exact HC.out _ (SA.below b1) | exact HC.out _ ((SD.below b1).below (alloc_bel _ _)) | exact HC.out _ ((SA.below b1).put KZ1.kc hz ⟨by omega,by omega,by omega,trivial⟩ _ _ _))
   (first | (go_at_call 126;refine (D1.out _ (by first | exact SD.O | exact SA.O)).mono ?_;rintro e' v1 ⟨A1,p1,c1,rfl,n1,b1⟩;first | (have KZ1:K3 v1 w1.heap.size (.bool false) (.slice none 0 0) (.int .i64 0):=(K3.made w1.drew (.bool false) (.slice none 0 0) (.int .i64 0)).adv b1;obtain ⟨kf0,kf1,kf2⟩:=KZ1.frozen;obtain ⟨kc0,kc1,kc2,kc3⟩:=KZ1.cell) | skip))
  all_goals (go_wp2_with fail;go_meet;first | exact ⟨_,_,_,_,rfl,rfl,Nat.le_trans hz b1.size,((SD.below b1).num n1).alloc _ _⟩ | exact ⟨_,_,_,_,rfl,rfl,hz,((SA.below b1).num n1).putK KZ1.kc hz ⟨by omega,by omega,by omega,trivial⟩ _ _ _⟩)
 case rest =>
  clear S
  obtain ⟨g0,A0,n0,c0,rfl,rfl,hg0,S⟩:=hcut
  go_upto_region 2 with fail
  go_cut [9,10] (fun sd so wx=>∃ g1 A1 n1 c1,sd=.pointer (some ⟨g1,0,none⟩)∧so=.bool r2.ok∧w.heap.size≤g1∧St TW w g p false wx [(24,g1,#[.bool r2.neg,.slice A1 n1 c1,.int .i64 r2.e]),(24,g0,#[.bool r1.neg,.slice A0 n0 c0,.int .i64 r1.e]),(31,w.heap.size+1+1,zs),(78,w.heap.size+1,#[.bool y.neg,.slice B m d,.int .i64 y.e]),(78,w.heap.size,#[.bool x.neg,.slice A n c,.int .i64 x.e])] [(.slice A1 n1 c1,r2.m),(.slice A0 n0 c0,r1.m)])
  case first =>
   have HC:Hid (∀ w',St TW w g p false w' [(24,g0,#[.bool r1.neg,.slice A0 n0 c0,.int .i64 r1.e]),(31,w.heap.size+1+1,zs),(78,w.heap.size+1,#[.bool y.neg,.slice B m d,.int .i64 y.e]),(78,w.heap.size,#[.bool x.neg,.slice A n c,.int .i64 x.e])] [(.slice A0 n0 c0,r1.m)]→w'.cell? ⟨w.heap.size+1,0,none⟩=some (.bool y.neg)∧w'.cell? ⟨w.heap.size+1,1,none⟩=some (.slice B m d)∧w'.cell? ⟨w.heap.size+1,2,none⟩=some (.int .i64 y.e)∧w'.cell? ⟨g,0,none⟩=some (.int .i64 p)):=Lib.hid (fun w' h=>⟨h.ks.2.2.1.1.at_ 0 _ rfl,h.ks.2.2.1.1.at_ 1 _ rfl,h.ks.2.2.1.1.at_ 2 _ rfl,h.wc.1⟩)
   have hz0:=S.ks.1.1.2
   have hz1:=S.ks.2.1.1.2
   have hz2:=S.ks.2.2.1.1.2
   have hz3:=S.ks.2.2.2.1.1.2
   have hz:w.heap.size≤wc.heap.size:=S.size
   have SD:=S.drew
   have SA:=SD.below (alloc_bel wc.drew (cd3 (.bool false) (.slice none 0 0) (.int .i64 0)))
   have X1:=HC.out _ SD
   clear S
   go_region_held3 (fun w'=>w'.cell? ⟨w.heap.size+1,0,none⟩=some (.bool y.neg)∧w'.cell? ⟨w.heap.size+1,1,none⟩=some (.slice B m d)∧w'.cell? ⟨w.heap.size+1,2,none⟩=some (.int .i64 y.e)∧w'.cell? ⟨g,0,none⟩=some (.int .i64 p))
    (first | exact X1 | exact HC.out _ (SD.below b1) | exact HC.out _ SA | exact HC.out _ (SA.below b1) | exact HC.out _ ((SD.below b1).below (alloc_bel _ _)) | exact HC.out _ ((SA.below b1).put KZ1.kc hz ⟨by omega,by omega,by omega,by omega,trivial⟩ _ _ _))
    (first | (go_at_call 126;refine (D2.out _ (by first | exact SD.O | exact SA.O)).mono ?_;rintro e' v1 ⟨A1,p1,c1,rfl,n1,b1⟩;first | (have KZ1:K3 v1 wc.heap.size (.bool false) (.slice none 0 0) (.int .i64 0):=(K3.made wc.drew (.bool false) (.slice none 0 0) (.int .i64 0)).adv b1;obtain ⟨kf0,kf1,kf2⟩:=KZ1.frozen;obtain ⟨kc0,kc1,kc2,kc3⟩:=KZ1.cell) | skip))
   all_goals (go_wp2_with fail;go_meet;first | exact ⟨_,_,_,_,rfl,rfl,Nat.le_trans hz b1.size,((SD.below b1).num n1).alloc _ _⟩ | exact ⟨_,_,_,_,rfl,rfl,hz,((SA.below b1).num n1).putK KZ1.kc hz ⟨by omega,by omega,by omega,by omega,trivial⟩ _ _ _⟩)
  case rest =>
   clear S
   obtain ⟨g1,A1,n1,c1,rfl,rfl,hg1,S⟩:=hcut
   have k2:=S.ks.2.1.1
   have k2_0:=k2.at_ 0 _ rfl
   have k2_1:=k2.at_ 1 _ rfl
   have k2_2:=k2.at_ 2 _ rfl
   have k2l:=k2.2
   clear k2
   have k3:=S.ks.1.1
   have k3_0:=k3.at_ 0 _ rfl
   have k3_1:=k3.at_ 1 _ rfl
   have k3_2:=k3.at_ 2 _ rfl
   have k3l:=k3.2
   clear k3
   cases hr1:r1.ok
   · skip
     rw [hr1] at HT
     first | rw [Bool.false_and] at HT | rw [Bool.true_and] at HT
     go_wp2_with fail
     refine (keep_any g p false r1 r2 A0 A1 n0 c0 n1 c1 (false) _ S.W S.ns.2.1 S.ns.1).mono ?_
     rintro e' w5 ⟨A9,p9,c9,B9,q9,d9,rfl,m1,m2,hW9,o9⟩
     replace S:=S.only o9 hW9
     clear o9 hW9
     clear k2_0 k2_1 k2_2 k2l k3_0 k3_1 k3_2 k3l
     generalize keepS false r1 r2 (false)=r at *
     have kR:=S.ks.2.2.1.1
     have s0:=kR.at_ 0 _ rfl
     have s1:=kR.at_ 1 _ rfl
     have s2:=kR.at_ 2 _ rfl
     have s3:=kR.at_ 3 _ rfl
     have s4:=kR.at_ 4 _ rfl
     have s5:=kR.at_ 5 _ rfl
     have rf0:=kR.fr 0
     have rf1:=kR.fr 1
     have rf2:=kR.fr 2
     have rf3:=kR.fr 3
     have rf4:=kR.fr 4
     have rf5:=kR.fr 5
     go_wp2_with fail
     rw [HT.out]
     obtain ⟨q1,q2,q3,q4⟩:=S.give (lo:=r.lo) (hi:=r.hi) m1 m2 kR (by omega)
     exact bodyPost_ret (v:=spv r.lo.neg A9 p9 c9 r.lo.e r.hi.neg B9 q9 d9 r.hi.e) (by simp [results,Tryz.results70,go_sem,s0,s1,s2,s3,s4,s5]) rfl ⟨A9,p9,c9,B9,q9,d9,rfl,q1,q2,q3,q4⟩
   · skip
     rw [hr1] at HT
     first | rw [Bool.false_and] at HT | rw [Bool.true_and] at HT
     go_wp2_with fail
     refine (keep_any g p false r1 r2 A0 A1 n0 c0 n1 c1 (r2.ok) _ S.W S.ns.2.1 S.ns.1).mono ?_
     rintro e' w6 ⟨A9,p9,c9,B9,q9,d9,rfl,m1,m2,hW9,o9⟩
     replace S:=S.only o9 hW9
     clear o9 hW9
     clear k2_0 k2_1 k2_2 k2l k3_0 k3_1 k3_2 k3l
     generalize keepS false r1 r2 (r2.ok)=r at *
     have kR:=S.ks.2.2.1.1
     have s0:=kR.at_ 0 _ rfl
     have s1:=kR.at_ 1 _ rfl
     have s2:=kR.at_ 2 _ rfl
     have s3:=kR.at_ 3 _ rfl
     have s4:=kR.at_ 4 _ rfl
     have s5:=kR.at_ 5 _ rfl
     have rf0:=kR.fr 0
     have rf1:=kR.fr 1
     have rf2:=kR.fr 2
     have rf3:=kR.fr 3
     have rf4:=kR.fr 4
     have rf5:=kR.fr 5
     go_wp2_with fail
     rw [HT.out]
     obtain ⟨q1,q2,q3,q4⟩:=S.give (lo:=r.lo) (hi:=r.hi) m1 m2 kR (by omega)
     exact bodyPost_ret (v:=spv r.lo.neg A9 p9 c9 r.lo.e r.hi.neg B9 q9 d9 r.hi.e) (by simp [results,Tryz.results70,go_sem,s0,s1,s2,s3,s4,s5]) rfl ⟨A9,p9,c9,B9,q9,d9,rfl,q1,q2,q3,q4⟩
theorem wide_of {r:DR} (h:PlainR r):WideR r:=⟨by have:=h.bits;omega,by have:=h.e1;omega,by have:=h.e2;omega⟩
theorem cutI_yes {r:DR} {P:Nat} {up:Bool} (h:r.ok=true) (h1:1≤P) (h2:P≤8192):cutI r (P:Int) up=cutD r.neg r.m r.e false P up:=by
 unfold cutI cutP bitsFitB
 rw [h]
 have h3:(1:Int)≤(P:Int):=by omega
 have h4:(P:Int)≤8192:=by omega
 simp [h3,h4]
set_option maxRecDepth 8000 in
set_option maxHeartbeats 4000000 in
theorem sout_any {lo hi:DR} {A B:Option Addr} {n c m d:Nat} (g:Nat) (p:Int) (bad:Bool) (w:World) (hW:Wk TW w g p bad) (ha:DIn w A n c lo) (hb:DIn w B m d hi) (hT:Tab w) :
 Calls Tryz.prog 94 #[.pointer (some ⟨g,0,none⟩),spv lo.neg A n c lo.e hi.neg B m d hi.e] w (SPost TW w g p (outS p bad lo hi)):=by
 have S:=st1 hW (.bool lo.neg) (.slice A n c) (.int .i64 lo.e) (.bool hi.neg) (.slice B m d) (.int .i64 hi.e)
 have TK:=take1 g p bad _ S.W (ha.wk hW S.O) (hb.wk hW S.O)
 rw [show ((w.alloc (co6 (.bool lo.neg) (.slice A n c) (.int .i64 lo.e) (.bool hi.neg) (.slice B m d) (.int .i64 hi.e))).alloc z6).heap.size=w.heap.size+1+1 by simp] at TK
 have TKH:=Lib.hid TK
 clear TK
 have k0:=S.ks.2.1.1
 have k0_0:=k0.at_ 0 _ rfl
 have k0_1:=k0.at_ 1 _ rfl
 have k0_2:=k0.at_ 2 _ rfl
 have k0_3:=k0.at_ 3 _ rfl
 have k0_4:=k0.at_ 4 _ rfl
 have k0_5:=k0.at_ 5 _ rfl
 have k0l:=k0.2
 clear k0
 go_enter Tryz.func94,Tryz.ntmps94
 go_wp2_with fail
 refine TKH.out.mono ?_
 clear TKH
 clear k0_0 k0_1 k0_2 k0_3 k0_4 k0_5 k0l
 generalize (w.alloc (co6 (.bool lo.neg) (.slice A n c) (.int .i64 lo.e) (.bool hi.neg) (.slice B m d) (.int .i64 hi.e))).alloc z6=w1 at *
 rintro e' w2 ⟨rfl,hW2,o2⟩
 replace S:=S.only o2 hW2
 clear o2 hW2
 obtain ⟨bo,hbo⟩:∃ b:Bool,Hid (bad1 p bad lo hi=b):=⟨_,Lib.hid rfl⟩
 rw [hbo.out] at S
 rw [hbo.out]
 cases bo
 rotate_left
 · have HT:Hid (outS p bad lo hi=SRes.no):=Lib.hid (by unfold outS;rw [hbo.out];rfl)
   have kR:=S.ks.1.1
   have s0:=kR.at_ 0 _ rfl
   have s1:=kR.at_ 1 _ rfl
   have s2:=kR.at_ 2 _ rfl
   have s3:=kR.at_ 3 _ rfl
   have s4:=kR.at_ 4 _ rfl
   have s5:=kR.at_ 5 _ rfl
   have rf0:=kR.fr 0
   have rf1:=kR.fr 1
   have rf2:=kR.fr 2
   have rf3:=kR.fr 3
   have rf4:=kR.fr 4
   have rf5:=kR.fr 5
   go_wp2_with fail
   rw [HT.out]
   obtain ⟨q1,q2,q3,q4⟩:=S.give (lo:=DR.zero) (hi:=DR.zero) (num_nil _) (num_nil _) kR (by omega)
   exact bodyPost_ret (v:=spv false none 0 0 0 false none 0 0 0) (by simp [results,Tryz.results94,go_sem,s0,s1,s2,s3,s4,s5]) rfl ⟨none,0,0,none,0,0,rfl,q1,q2,q3,q4⟩
 · skip
   obtain ⟨hbad,hp,hR⟩:=bad1_false hbo.out
   obtain ⟨P,rfl⟩:∃ P:Nat,p=(P:Int):=⟨p.toNat,by omega⟩
   have HT:Hid (outS (P:Int) bad lo hi=outwS P lo hi):=Lib.hid (by
    unfold outS;rw [hbo.out];unfold twoS outwS
    rw [cutI_yes hR.l (by omega) (by omega),cutI_yes hR.h (by omega) (by omega)];rfl)
   have OW:Hid (∀ w',Wk TW w' g (P:Int) false→Only w w' g→Calls Tryz.prog 70 #[.pointer (some ⟨g,0,none⟩),dyv lo.neg A n c lo.e,dyv hi.neg B m d hi.e] w' (SPost TW w' g (P:Int) (outwS P lo hi))):=Lib.hid (fun w' k o =>
    outward_any g P (by omega) w' k ((ha.wk hW o).num hR.l) ((hb.wk hW o).num hR.h) (wide_of (ha.plain hR.l)) (wide_of (hb.plain hR.h)) (hT.wk hW o))
   clear hbo hbad hR
   have k1:=S.ks.2.1.1
   have k1_0:=k1.at_ 0 _ rfl
   have k1_1:=k1.at_ 1 _ rfl
   have k1_2:=k1.at_ 2 _ rfl
   have k1_3:=k1.at_ 3 _ rfl
   have k1_4:=k1.at_ 4 _ rfl
   have k1_5:=k1.at_ 5 _ rfl
   have k1l:=k1.2
   clear k1
   go_wp2_with fail
   refine (OW.out _ S.W S.O).mono ?_
   rintro e' w3 ⟨A9,p9,c9,B9,q9,d9,rfl,m1,m2,hW9,o9⟩
   replace S:=S.only o9 hW9
   clear o9 hW9
   clear k1_0 k1_1 k1_2 k1_3 k1_4 k1_5 k1l
   generalize outwS P lo hi=r at *
   clear OW
   have kR:=S.ks.1.1
   have s0:=kR.at_ 0 _ rfl
   have s1:=kR.at_ 1 _ rfl
   have s2:=kR.at_ 2 _ rfl
   have s3:=kR.at_ 3 _ rfl
   have s4:=kR.at_ 4 _ rfl
   have s5:=kR.at_ 5 _ rfl
   have rf0:=kR.fr 0
   have rf1:=kR.fr 1
   have rf2:=kR.fr 2
   have rf3:=kR.fr 3
   have rf4:=kR.fr 4
   have rf5:=kR.fr 5
   go_wp2_with fail
   rw [HT.out]
   obtain ⟨q1,q2,q3,q4⟩:=S.give (lo:=r.lo) (hi:=r.hi) m1 m2 kR (by omega)
   exact bodyPost_ret (v:=spv r.lo.neg A9 p9 c9 r.lo.e r.hi.neg B9 q9 d9 r.hi.e) (by simp [results,Tryz.results94,go_sem,s0,s1,s2,s3,s4,s5]) rfl ⟨A9,p9,c9,B9,q9,d9,rfl,q1,q2,q3,q4⟩
end Go.Proofs.YtmbmohibpkepdaaGreatDoor
