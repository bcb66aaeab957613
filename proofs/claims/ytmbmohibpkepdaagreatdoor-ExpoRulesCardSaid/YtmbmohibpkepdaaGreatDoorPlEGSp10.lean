/-
 product, either, above.
 top, greaterSize.
 products of two spans.
 products of any two spans.
 Mul of the code.
-/
import Derived.Test.YtmbmohibpkepdaaGreatDoorPlEGDy12
import Derived.Test.YtmbmohibpkepdaaGreatDoorPlEGSp6
import Derived.Test.YtmbmohibpkepdaaGreatDoorPlEGSp4
import Derived.Test.YtmbmohibpkepdaaGreatDoorPlEGSp9
namespace Go.Proofs.YtmbmohibpkepdaaGreatDoor
open Go.RowKit
def prodN (r s:DR):DR:=⟨true,r.neg != s.neg,r.m*s.m,r.e+s.e⟩
theorem pu33 (T T' U:TypeId) (w:World) (x y z:Array Value):Pu w (((w.alloc (.cells x T)).alloc (.cells y T')).alloc (.cells z U)) [(U,w.heap.size+1+1,z),(T',w.heap.size+1,y),(T,w.heap.size,x)] []:=by
 have h:=((Pu.alloc (⟨Below.refl _ w,trivial,trivial⟩:Pu w w [] []) T x).alloc T' y).alloc U z
 rw [show ((w.alloc (.cells x T)).alloc (.cells y T')).heap.size=w.heap.size+1+1 by simp,show (w.alloc (.cells x T)).heap.size=w.heap.size+1 by simp] at h
 exact h
set_option maxRecDepth 8000 in
set_option maxHeartbeats 4000000 in
theorem product_any {r s:DR} {A B:Option Addr} {n c m d:Nat} (w:World) (ha:Num w (.slice A n c) r.m) (hb:Num w (.slice B m d) s.m) (hr:PlainR r) (hs:PlainR s) :
 Calls Tryz.prog 127 #[dyv r.neg A n c r.e,dyv s.neg B m d s.e] w (DOne w (prodN r s)):=by
 have P:=pu33 24 24 78 w #[.bool r.neg,.slice A n c,.int .i64 r.e] #[.bool s.neg,.slice B m d,.int .i64 s.e] zd
 have e1:=hr.e1
 have e2:=hr.e2
 have e3:=hs.e1
 have e4:=hs.e2
 have b5:=hr.bits
 have b6:=hs.bits
 have hw:IntKind.i64.wrap (r.e+s.e)=r.e+s.e:=wrap_id (by omega) (by omega)
 have MU:Hid (∀ w',Below w.heap.size w w'→Calls Tryz.prog 80 #[.slice A n c,.slice B m d] w' (NP w' (r.m*s.m))):=Lib.hid (fun w' b=>mulN w' (ha.below b) (hb.below b) (by omega) (by omega))
 obtain ⟨sq',hsg⟩:∃ b:Bool,(r.neg == s.neg)=b:=⟨_,rfl⟩
 have HT:Hid (prodN r s=⟨true,!sq',r.m*s.m,r.e+s.e⟩):=Lib.hid (by unfold prodN bne;rw [hsg])
 have HC:Hid (∀ w' ns,Pu w w' [(78,w.heap.size+1+1,zd),(24,w.heap.size+1,#[.bool s.neg,.slice B m d,.int .i64 s.e]),(24,w.heap.size,#[.bool r.neg,.slice A n c,.int .i64 r.e])] ns→w'.cell? ⟨w.heap.size,0,none⟩=some (.bool r.neg)∧w'.cell? ⟨w.heap.size,1,none⟩=some (.slice A n c)∧w'.cell? ⟨w.heap.size,2,none⟩=some (.int .i64 r.e)∧w'.cell? ⟨w.heap.size+1,0,none⟩=some (.bool s.neg)∧w'.cell? ⟨w.heap.size+1,1,none⟩=some (.slice B m d)∧w'.cell? ⟨w.heap.size+1,2,none⟩=some (.int .i64 s.e)):=Lib.hid (fun w' ns h=>⟨h.ks.2.2.1.at_ 0 _ rfl,h.ks.2.2.1.at_ 1 _ rfl,h.ks.2.2.1.at_ 2 _ rfl,h.ks.2.1.at_ 0 _ rfl,h.ks.2.1.at_ 1 _ rfl,h.ks.2.1.at_ 2 _ rfl⟩)
 have HK:Hid (∀ w' w9 ns,Pu w w' [(78,w.heap.size+1+1,zd),(24,w.heap.size+1,#[.bool s.neg,.slice B m d,.int .i64 s.e]),(24,w.heap.size,#[.bool r.neg,.slice A n c,.int .i64 r.e])] ns→Only w' w9 (w.heap.size+1+1)→w9.cell? ⟨w.heap.size,0,none⟩=some (.bool r.neg)∧w9.cell? ⟨w.heap.size,1,none⟩=some (.slice A n c)∧w9.cell? ⟨w.heap.size,2,none⟩=some (.int .i64 r.e)∧w9.cell? ⟨w.heap.size+1,0,none⟩=some (.bool s.neg)∧w9.cell? ⟨w.heap.size+1,1,none⟩=some (.slice B m d)∧w9.cell? ⟨w.heap.size+1,2,none⟩=some (.int .i64 s.e)):=Lib.hid (fun w' w9 ns h o=>⟨(h.ks.2.2.1.only o (by omega)).at_ 0 _ rfl,(h.ks.2.2.1.only o (by omega)).at_ 1 _ rfl,(h.ks.2.2.1.only o (by omega)).at_ 2 _ rfl,(h.ks.2.1.only o (by omega)).at_ 0 _ rfl,(h.ks.2.1.only o (by omega)).at_ 1 _ rfl,(h.ks.2.1.only o (by omega)).at_ 2 _ rfl⟩)
 go_enter Tryz.func127,Tryz.ntmps127
 go_upto_region 1 with fail
 generalize ((w.alloc (cd3 (.bool r.neg) (.slice A n c) (.int .i64 r.e))).alloc (cd3 (.bool s.neg) (.slice B m d) (.int .i64 s.e))).alloc (.cells zd 78)=w1 at *
 have PC:=P.drew
 clear P
 have XS:=HC.out _ _ PC
 go_region_held3 (fun w'=>w'.cell? ⟨w.heap.size,0,none⟩=some (.bool r.neg)∧w'.cell? ⟨w.heap.size,1,none⟩=some (.slice A n c)∧w'.cell? ⟨w.heap.size,2,none⟩=some (.int .i64 r.e)∧w'.cell? ⟨w.heap.size+1,0,none⟩=some (.bool s.neg)∧w'.cell? ⟨w.heap.size+1,1,none⟩=some (.slice B m d)∧w'.cell? ⟨w.heap.size+1,2,none⟩=some (.int .i64 s.e))
  (first | with_reducible exact HC.out v3 _ P9 | (refine HK.out v3 _ _ P9 ?_;with_reducible exact only_put3 _ _ _ _ _) | with_reducible exact XS)
  (first | (go_at_call 80;refine (MU.out _ PC.bel).mono ?_;rintro e' v3 ⟨A6,p6,c6,rfl,n6,b6'⟩;have P9:=(PC.below b6').num n6;have q0:=P9.ks.1.at_ 0 _ rfl;have q1:=P9.ks.1.at_ 1 _ rfl;have q2:=P9.ks.1.at_ 2 _ rfl;have qf0:=P9.ks.1.fr 0;have qf1:=P9.ks.1.fr 1;have qf2:=P9.ks.1.fr 2))
 go_wp2_with fail
 rw [HT.out]
 obtain ⟨hn9,hb9⟩:=P9.give P9.ks.1 (by omega) P9.ns.1 (.bool (!sq')) (.slice A6 p6 c6) (.int .i64 (r.e+s.e))
 exact bodyPost_ret (v:=.agg #[.bool (!sq'),.slice A6 p6 c6,.int .i64 (r.e+s.e)]) (by simp [results,Tryz.results127,go_sem,q0,q1,q2]) rfl ⟨A6,p6,c6,rfl,hn9,hb9⟩
set_option maxRecDepth 8000 in
set_option maxHeartbeats 4000000 in
theorem either_any {r s:DR} {A B:Option Addr} {n c m d:Nat} (b:Bool) (w:World) (ha:Num w (.slice A n c) r.m) (hb:Num w (.slice B m d) s.m) :
 Calls Tryz.prog 128 #[.bool b,dyv r.neg A n c r.e,dyv s.neg B m d s.e] w (DOne w (pickS b r s)):=by
 have P:=pu33 24 24 24 w #[.bool r.neg,.slice A n c,.int .i64 r.e] #[.bool s.neg,.slice B m d,.int .i64 s.e] zd
 go_enter Tryz.func128,Tryz.ntmps128
 cases b
 · skip
   have k0:=P.ks.2.1.at_ 0 _ rfl
   have k1:=P.ks.2.1.at_ 1 _ rfl
   have k2:=P.ks.2.1.at_ 2 _ rfl
   go_upto_region 3 with fail
   generalize ((w.alloc (cd3 (.bool r.neg) (.slice A n c) (.int .i64 r.e))).alloc (cd3 (.bool s.neg) (.slice B m d) (.int .i64 s.e))).alloc (cd3 (.bool false) (.slice none 0 0) (.int .i64 0))=w1 at *
   have q0:=P.ks.1.at_ 0 _ rfl
   have q1:=P.ks.1.at_ 1 _ rfl
   have q2:=P.ks.1.at_ 2 _ rfl
   have qf0:=P.ks.1.fr 0
   have qf1:=P.ks.1.fr 1
   have qf2:=P.ks.1.fr 2
   go_wp2_with fail
   obtain ⟨hn9,hb9⟩:=P.give P.ks.1 (by omega) (hb.below P.bel) (.bool s.neg) (.slice B m d) (.int .i64 s.e)
   exact bodyPost_ret (v:=.agg #[.bool s.neg,.slice B m d,.int .i64 s.e]) (by simp [results,Tryz.results128,go_sem,q0,q1,q2]) rfl ⟨B,m,d,rfl,hn9,hb9⟩
 · skip
   have k0:=P.ks.2.2.1.at_ 0 _ rfl
   have k1:=P.ks.2.2.1.at_ 1 _ rfl
   have k2:=P.ks.2.2.1.at_ 2 _ rfl
   go_upto_region 2 with fail
   generalize ((w.alloc (cd3 (.bool r.neg) (.slice A n c) (.int .i64 r.e))).alloc (cd3 (.bool s.neg) (.slice B m d) (.int .i64 s.e))).alloc (cd3 (.bool false) (.slice none 0 0) (.int .i64 0))=w1 at *
   have q0:=P.ks.1.at_ 0 _ rfl
   have q1:=P.ks.1.at_ 1 _ rfl
   have q2:=P.ks.1.at_ 2 _ rfl
   have qf0:=P.ks.1.fr 0
   have qf1:=P.ks.1.fr 1
   have qf2:=P.ks.1.fr 2
   go_wp2_with fail
   obtain ⟨hn9,hb9⟩:=P.give P.ks.1 (by omega) (ha.below P.bel) (.bool r.neg) (.slice A n c) (.int .i64 r.e)
   exact bodyPost_ret (v:=.agg #[.bool r.neg,.slice A n c,.int .i64 r.e]) (by simp [results,Tryz.results128,go_sem,q0,q1,q2]) rfl ⟨A,n,c,rfl,hn9,hb9⟩
def aboveI (r:DR):Bool:=!r.neg && decide (r.m≠0)
set_option maxRecDepth 8000 in
set_option maxHeartbeats 4000000 in
theorem above_any {r:DR} {A:Option Addr} {n c:Nat} (w:World) (ha:Num w (.slice A n c) r.m) :
 Calls Tryz.prog 129 #[dyv r.neg A n c r.e] w (BoolPost w (aboveI r)):=by
 have b0:=alloc_bel w (cd3 (.bool r.neg) (.slice A n c) (.int .i64 r.e))
 have kA:=KC.made 24 w #[.bool r.neg,.slice A n c,.int .i64 r.e]
 have k0:=kA.at_ 0 _ rfl
 have k1:=kA.at_ 1 _ rfl
 have hA:=ha.empty
 go_enter Tryz.func129,Tryz.ntmps129
 cases hn:r.neg
 · skip
   have HT:Hid (aboveI r=decide (r.m≠0)):=Lib.hid (by unfold aboveI;rw [hn];rfl)
   by_cases h0:n=0
   · skip
     have h1:decide ((0:Int) < (n:Int))=false:=by simp;omega
     have h2:¬ (0:Int) < (n:Int):=by omega
     rw [hn] at k0
     have HT2:=Lib.hid (HT.out.trans (by simp [hA.1 h0]):aboveI r=false)
     clear hA h0 HT
     go_wp2_with fail
     go_ret
     exact ⟨by rw [HT2.out];first | rfl | (simp;omega),by first | exact b0 | (rw [← hn];exact b0)⟩
   · skip
     have h1:decide ((0:Int) < (n:Int))=true:=by simp;omega
     have h2:(0:Int) < (n:Int):=by omega
     rw [hn] at k0
     have HT2:=Lib.hid (HT.out.trans (by simp;exact fun h=>h0 (hA.2 h)):aboveI r=true)
     clear hA h0 HT
     go_wp2_with fail
     go_ret
     exact ⟨by rw [HT2.out];first | rfl | (simp;omega),by first | exact b0 | (rw [← hn];exact b0)⟩
 · skip
   have HT2:Hid (aboveI r=false):=Lib.hid (by unfold aboveI;rw [hn];rfl)
   rw [hn] at k0
   clear hA
   go_wp2_with fail
   go_ret
   exact ⟨by rw [HT2.out];rfl,by first | exact b0 | (rw [← hn];exact b0)⟩
end Go.Proofs.YtmbmohibpkepdaaGreatDoor
namespace Go.Proofs.YtmbmohibpkepdaaGreatDoor
open Go.RowKit
theorem ntop_any {r:DR} {A:Option Addr} {n c:Nat} (w:World) (ha:Num w (.slice A n c) r.m) (hV:nb r.m≤100000) (he1:-1000000≤r.e) (he2:r.e≤1000000) :
 Calls Tryz.prog 169 #[dyv r.neg A n c r.e] w (IP w (r.e+(nb r.m:Int))):=by
 have b0:=alloc_bel w (.cells #[.bool r.neg,.slice A n c,.int .i64 r.e] 78)
 have kA:=KC.made 78 w #[.bool r.neg,.slice A n c,.int .i64 r.e]
 have hw:IntKind.i64.wrap (r.e+(nb r.m:Int))=r.e+(nb r.m:Int):=wrap_id (by omega) (by omega)
 have BI:Hid (∀ w',Below w.heap.size w w'→Calls Tryz.prog 117 #[.slice A n c] w' (IP w' (nb r.m:Int))):=Lib.hid (fun w' b=>bitsN w' (ha.below b) (by omega))
 have HC:Hid (∀ w',KC 78 w' w.heap.size #[.bool r.neg,.slice A n c,.int .i64 r.e]→w'.cell? ⟨w.heap.size,1,none⟩=some (.slice A n c)∧w'.cell? ⟨w.heap.size,2,none⟩=some (.int .i64 r.e)):=Lib.hid (fun w' h=>⟨h.at_ 1 _ rfl,h.at_ 2 _ rfl⟩)
 generalize nb r.m=N at *
 go_enter Tryz.func169,Tryz.ntmps169
 go_upto_region 1 with fail
 generalize w.alloc (.cells #[.bool r.neg,.slice A n c,.int .i64 r.e] 78)=w1 at *
 have kD:=kA.drew
 have BD:=below_step b0 (Below.refl _ w1).drew
 have XS:=HC.out _ kD
 go_region_held3 (fun w'=>w'.cell? ⟨w.heap.size,1,none⟩=some (.slice A n c)∧w'.cell? ⟨w.heap.size,2,none⟩=some (.int .i64 r.e))
  (first | with_reducible exact HC.out v3 k9 | with_reducible exact XS)
  (first | (go_at_call 117;refine (BI.out _ BD).mono ?_;rintro e' v3 ⟨rfl,b3⟩;have k9:=kD.adv b3;have B9:=below_step BD b3))
 go_wp2_with fail
 go_ret
 exact ⟨rfl,B9⟩
def grN (r s:DR):DR:=if onE r.m r.e s.e < onE s.m s.e r.e then s else r
set_option maxRecDepth 8000 in
set_option maxHeartbeats 4000000 in
theorem greater_any {r s:DR} {A B:Option Addr} {n c m d:Nat} (w:World) (ha:Num w (.slice A n c) r.m) (hb:Num w (.slice B m d) s.m) (r0:0 < r.m) (s0:0 < s.m) (rb:nb r.m≤100000) (sb:nb s.m≤100000)
 (re1:-600000≤r.e) (re2:r.e≤600000) (se1:-600000≤s.e) (se2:s.e≤600000) :
 Calls Tryz.prog 130 #[dyv r.neg A n c r.e,dyv s.neg B m d s.e] w (DOne w (grN r s)):=by
 have P:=pu33 78 78 78 w #[.bool r.neg,.slice A n c,.int .i64 r.e] #[.bool s.neg,.slice B m d,.int .i64 s.e] zd
 obtain ⟨tr,htr⟩:∃ z,r.e+(nb r.m:Int)=z:=⟨_,rfl⟩
 obtain ⟨ts,hts⟩:∃ z,s.e+(nb s.m:Int)=z:=⟨_,rfl⟩
 have T1:Hid (∀ w',Below w.heap.size w w'→Calls Tryz.prog 169 #[dyv r.neg A n c r.e] w' (IP w' tr)):=Lib.hid (fun w' b=>by rw [← htr];exact ntop_any w' (ha.below b) (by omega) (by omega) (by omega))
 have T2:Hid (∀ w',Below w.heap.size w w'→Calls Tryz.prog 169 #[dyv s.neg B m d s.e] w' (IP w' ts)):=Lib.hid (fun w' b=>by rw [← hts];exact ntop_any w' (hb.below b) (by omega) (by omega) (by omega))
 obtain ⟨E,hE⟩:∃ E,min r.e s.e=E:=⟨_,rfl⟩
 obtain ⟨j,hj⟩:∃ j:Nat,r.e-E=(j:Int):=⟨(r.e-E).toNat,by omega⟩
 obtain ⟨k,hk⟩:∃ k:Nat,s.e-E=(k:Int):=⟨(s.e-E).toNat,by omega⟩
 have hX:r.m*2^j=onE r.m r.e s.e:=by unfold onE;rw [hE,hj,Int.toNat_natCast]
 have hY:s.m*2^k=onE s.m s.e r.e:=by unfold onE;rw [show min s.e r.e=E by omega,hk,Int.toNat_natCast]
 have HLT:tr < ts→onE r.m r.e s.e < onE s.m s.e r.e:=fun h=>onE_lt s0 (by omega)
 have HGT:ts < tr→onE s.m s.e r.e < onE r.m r.e s.e:=fun h=>onE_lt r0 (by omega)
 have HG:Hid (grN r s=if onE r.m r.e s.e < onE s.m s.e r.e then s else r):=Lib.hid rfl
 have hw1:IntKind.i64.wrap (r.e-E)=(j:Int):=by rw [wrap_id (by omega) (by omega),hj]
 have hw2:IntKind.i64.wrap (s.e-E)=(k:Int):=by rw [wrap_id (by omega) (by omega),hk]
 have hjk:tr=ts→j≤1048576∧k≤1048576:=fun h=>by omega
 have H1:tr=ts→Hid (∀ w',Below w.heap.size w w'→Calls Tryz.prog 123 #[.slice A n c,.int .i64 (j:Int)] w' (NP w' (onE r.m r.e s.e))):=fun h=>Lib.hid (fun w' b=>by rw [← hX];exact shlN w' (ha.below b) (by omega) (hjk h).1)
 have H2:tr=ts→Hid (∀ w',Below w.heap.size w w'→Calls Tryz.prog 123 #[.slice B m d,.int .i64 (k:Int)] w' (NP w' (onE s.m s.e r.e))):=fun h=>Lib.hid (fun w' b=>by rw [← hY];exact shlN w' (hb.below b) (by omega) (hjk h).2)
 have bX:tr=ts→nb (onE r.m r.e s.e)≤6000000:=fun h=>by rw [← hX,nb_mul_pow r0];have:=hjk h;omega
 have bY:tr=ts→nb (onE s.m s.e r.e)≤6000000:=fun h=>by rw [← hY,nb_mul_pow s0];have:=hjk h;omega
 clear hX hY htr hts hj hk hjk
 generalize onE r.m r.e s.e=X at *
 generalize onE s.m s.e r.e=Y at *
 have HC:Hid (∀ w' ns,Pu w w' [(78,w.heap.size+1+1,zd),(78,w.heap.size+1,#[.bool s.neg,.slice B m d,.int .i64 s.e]),(78,w.heap.size,#[.bool r.neg,.slice A n c,.int .i64 r.e])] ns→w'.cell? ⟨w.heap.size,0,none⟩=some (.bool r.neg)∧w'.cell? ⟨w.heap.size,1,none⟩=some (.slice A n c)∧w'.cell? ⟨w.heap.size,2,none⟩=some (.int .i64 r.e)∧w'.cell? ⟨w.heap.size+1,0,none⟩=some (.bool s.neg)∧w'.cell? ⟨w.heap.size+1,1,none⟩=some (.slice B m d)∧w'.cell? ⟨w.heap.size+1,2,none⟩=some (.int .i64 s.e)):=Lib.hid (fun w' ns h=>⟨h.ks.2.2.1.at_ 0 _ rfl,h.ks.2.2.1.at_ 1 _ rfl,h.ks.2.2.1.at_ 2 _ rfl,h.ks.2.1.at_ 0 _ rfl,h.ks.2.1.at_ 1 _ rfl,h.ks.2.1.at_ 2 _ rfl⟩)
 go_enter Tryz.func130,Tryz.ntmps130
 go_upto_region 1 with fail
 generalize ((w.alloc (.cells #[.bool r.neg,.slice A n c,.int .i64 r.e] 78)).alloc (.cells #[.bool s.neg,.slice B m d,.int .i64 s.e] 78)).alloc (.cells zd 78)=w1 at *
 have PC:=P.drew
 clear P
 have XS:=HC.out _ _ PC
 go_region_held3 (fun w'=>w'.cell? ⟨w.heap.size,0,none⟩=some (.bool r.neg)∧w'.cell? ⟨w.heap.size,1,none⟩=some (.slice A n c)∧w'.cell? ⟨w.heap.size,2,none⟩=some (.int .i64 r.e)∧w'.cell? ⟨w.heap.size+1,0,none⟩=some (.bool s.neg)∧w'.cell? ⟨w.heap.size+1,1,none⟩=some (.slice B m d)∧w'.cell? ⟨w.heap.size+1,2,none⟩=some (.int .i64 s.e))
  (first | with_reducible exact HC.out _ _ PC | with_reducible exact XS)
  (first
   | (go_at_call_of 169 (Value.agg #[Value.bool r.neg,Value.slice A n c,Value.int .i64 r.e]);refine (T1.out _ PC.bel).mono ?_;rintro e' v1 ⟨rfl,b4⟩;have PQ:=PC.below b4;clear PC;have PC:=PQ;clear PQ b4)
   | (go_at_call_of 169 (Value.agg #[Value.bool s.neg,Value.slice B m d,Value.int .i64 s.e]);refine (T2.out _ PC.bel).mono ?_;rintro e' v2 ⟨rfl,b4⟩;have PQ:=PC.below b4;clear PC;have PC:=PQ;clear PQ b4)
   | (go_at_call 67;refine (compare_z tr ts _).mono ?_;rintro e' v3 ⟨rfl,rfl⟩))
 have P:=PC
 clear PC XS T1 T2
 rcases Int.lt_trichotomy tr ts with hlt | heq | hgt
 · skip
   have hz:cmpI tr ts=-1:=by unfold cmpI;rw [if_pos hlt]
   have HT:=Lib.hid (HG.out.trans (if_pos (HLT hlt)))
   rw [hz]
   clear hz hlt HG H1 H2 bX bY HLT HGT hE hw1 hw2
   have k0:=P.ks.2.1.at_ 0 _ rfl
   have k1:=P.ks.2.1.at_ 1 _ rfl
   have k2:=P.ks.2.1.at_ 2 _ rfl
   have q0:=P.ks.1.at_ 0 _ rfl
   have q1:=P.ks.1.at_ 1 _ rfl
   have q2:=P.ks.1.at_ 2 _ rfl
   have qf0:=P.ks.1.fr 0
   have qf1:=P.ks.1.fr 1
   have qf2:=P.ks.1.fr 2
   go_wp2_with fail
   rw [HT.out]
   obtain ⟨hn9,hb9⟩:=P.give P.ks.1 (by omega) (hb.below P.bel) (.bool s.neg) (.slice B m d) (.int .i64 s.e)
   exact bodyPost_ret (v:=.agg #[.bool s.neg,.slice B m d,.int .i64 s.e]) (by simp [results,Tryz.results130,go_sem,q0,q1,q2]) rfl ⟨B,m,d,rfl,hn9,hb9⟩
 · skip
   have hz:cmpI tr ts=0:=by unfold cmpI;rw [if_neg (by omega),if_neg (by omega)]
   have G1:=H1 heq
   have G2:=H2 heq
   have cX:=bX heq
   have cY:=bY heq
   rw [hz]
   clear hz heq H1 H2 bX bY HLT HGT
   have k0:=P.ks.2.2.1.at_ 2 _ rfl
   have k1:=P.ks.2.1.at_ 2 _ rfl
   go_upto_region 4 with fail
   clear k0 k1
   have HC2:Hid (∀ w' ns,Pu w w' [(78,w.heap.size+1+1,zd),(78,w.heap.size+1,#[.bool s.neg,.slice B m d,.int .i64 s.e]),(78,w.heap.size,#[.bool r.neg,.slice A n c,.int .i64 r.e])] ns→w'.cell? ⟨w.heap.size,1,none⟩=some (.slice A n c)∧w'.cell? ⟨w.heap.size,2,none⟩=some (.int .i64 r.e)∧w'.cell? ⟨w.heap.size+1,1,none⟩=some (.slice B m d)∧w'.cell? ⟨w.heap.size+1,2,none⟩=some (.int .i64 s.e)):=Lib.hid (fun w' ns h=>⟨h.ks.2.2.1.at_ 1 _ rfl,h.ks.2.2.1.at_ 2 _ rfl,h.ks.2.1.at_ 1 _ rfl,h.ks.2.1.at_ 2 _ rfl⟩)
   have PC:=P.drew
   clear P HC
   have XS:=HC2.out _ _ PC
   go_region_held3 (fun w'=>w'.cell? ⟨w.heap.size,1,none⟩=some (.slice A n c)∧w'.cell? ⟨w.heap.size,2,none⟩=some (.int .i64 r.e)∧w'.cell? ⟨w.heap.size+1,1,none⟩=some (.slice B m d)∧w'.cell? ⟨w.heap.size+1,2,none⟩=some (.int .i64 s.e))
    (first | with_reducible exact HC2.out _ _ PC | with_reducible exact XS)
    (first
     | (go_at_call_of 123 (Value.slice A n c);refine (G1.out _ PC.bel).mono ?_;rintro e' v1 ⟨A4,p4,c4,rfl,n4,b4⟩;have PQ:=(PC.below b4).num n4;clear PC;have PC:=PQ;clear PQ n4 b4)
     | (go_at_call_of 123 (Value.slice B m d);refine (G2.out _ PC.bel).mono ?_;rintro e' v2 ⟨A5,p5,c5,rfl,n5,b5⟩;have PQ:=(PC.below b5).num n5;clear PC;have PC:=PQ;clear PQ n5 b5)
     | (go_at_call 122;refine (cmpNN _ PC.ns.2.1 PC.ns.1 cX cY).mono ?_;rintro e' v3 ⟨rfl,b6⟩;have PQ:=PC.below b6;clear PC;have PC:=PQ;clear PQ b6))
   have P:=PC
   clear PC XS G1 G2
   rcases Nat.lt_trichotomy X Y with h | h | h
   · skip
     rw [cmpN_lt h]
     have HT:=Lib.hid (HG.out.trans (if_pos h))
     clear HG h
     have k0:=P.ks.2.1.at_ 0 _ rfl
     have k1:=P.ks.2.1.at_ 1 _ rfl
     have k2:=P.ks.2.1.at_ 2 _ rfl
     have q0:=P.ks.1.at_ 0 _ rfl
     have q1:=P.ks.1.at_ 1 _ rfl
     have q2:=P.ks.1.at_ 2 _ rfl
     have qf0:=P.ks.1.fr 0
     have qf1:=P.ks.1.fr 1
     have qf2:=P.ks.1.fr 2
     go_wp2_with fail
     rw [HT.out]
     obtain ⟨hn9,hb9⟩:=P.give P.ks.1 (by omega) (hb.below P.bel) (.bool s.neg) (.slice B m d) (.int .i64 s.e)
     exact bodyPost_ret (v:=.agg #[.bool s.neg,.slice B m d,.int .i64 s.e]) (by simp [results,Tryz.results130,go_sem,q0,q1,q2]) rfl ⟨B,m,d,rfl,hn9,hb9⟩
   · skip
     subst h
     rw [cmpN_eq]
     have HT:=Lib.hid (HG.out.trans (if_neg (Nat.lt_irrefl _)))
     clear HG
     have k0:=P.ks.2.2.1.at_ 0 _ rfl
     have k1:=P.ks.2.2.1.at_ 1 _ rfl
     have k2:=P.ks.2.2.1.at_ 2 _ rfl
     have q0:=P.ks.1.at_ 0 _ rfl
     have q1:=P.ks.1.at_ 1 _ rfl
     have q2:=P.ks.1.at_ 2 _ rfl
     have qf0:=P.ks.1.fr 0
     have qf1:=P.ks.1.fr 1
     have qf2:=P.ks.1.fr 2
     go_wp2_with fail
     rw [HT.out]
     obtain ⟨hn9,hb9⟩:=P.give P.ks.1 (by omega) (ha.below P.bel) (.bool r.neg) (.slice A n c) (.int .i64 r.e)
     exact bodyPost_ret (v:=.agg #[.bool r.neg,.slice A n c,.int .i64 r.e]) (by simp [results,Tryz.results130,go_sem,q0,q1,q2]) rfl ⟨A,n,c,rfl,hn9,hb9⟩
   · skip
     rw [cmpN_gt h]
     have HT:=Lib.hid (HG.out.trans (if_neg (by omega)))
     clear HG h
     have k0:=P.ks.2.2.1.at_ 0 _ rfl
     have k1:=P.ks.2.2.1.at_ 1 _ rfl
     have k2:=P.ks.2.2.1.at_ 2 _ rfl
     have q0:=P.ks.1.at_ 0 _ rfl
     have q1:=P.ks.1.at_ 1 _ rfl
     have q2:=P.ks.1.at_ 2 _ rfl
     have qf0:=P.ks.1.fr 0
     have qf1:=P.ks.1.fr 1
     have qf2:=P.ks.1.fr 2
     go_wp2_with fail
     rw [HT.out]
     obtain ⟨hn9,hb9⟩:=P.give P.ks.1 (by omega) (ha.below P.bel) (.bool r.neg) (.slice A n c) (.int .i64 r.e)
     exact bodyPost_ret (v:=.agg #[.bool r.neg,.slice A n c,.int .i64 r.e]) (by simp [results,Tryz.results130,go_sem,q0,q1,q2]) rfl ⟨A,n,c,rfl,hn9,hb9⟩
 · skip
   have hz:cmpI tr ts=1:=by unfold cmpI;rw [if_neg (by omega),if_pos hgt]
   have HT:=Lib.hid (HG.out.trans (if_neg (by have:=HGT hgt;omega)))
   rw [hz]
   clear hz hgt HG H1 H2 bX bY HLT HGT hE hw1 hw2
   have k0:=P.ks.2.2.1.at_ 0 _ rfl
   have k1:=P.ks.2.2.1.at_ 1 _ rfl
   have k2:=P.ks.2.2.1.at_ 2 _ rfl
   have q0:=P.ks.1.at_ 0 _ rfl
   have q1:=P.ks.1.at_ 1 _ rfl
   have q2:=P.ks.1.at_ 2 _ rfl
   have qf0:=P.ks.1.fr 0
   have qf1:=P.ks.1.fr 1
   have qf2:=P.ks.1.fr 2
   go_wp2_with fail
   rw [HT.out]
   obtain ⟨hn9,hb9⟩:=P.give P.ks.1 (by omega) (ha.below P.bel) (.bool r.neg) (.slice A n c) (.int .i64 r.e)
   exact bodyPost_ret (v:=.agg #[.bool r.neg,.slice A n c,.int .i64 r.e]) (by simp [results,Tryz.results130,go_sem,q0,q1,q2]) rfl ⟨A,n,c,rfl,hn9,hb9⟩
end Go.Proofs.YtmbmohibpkepdaaGreatDoor
namespace Go.Proofs.YtmbmohibpkepdaaGreatDoor
open Go.RowKit
def prods1 (lo hi lo' hi':DR):DR×DR :=
 if lo'.neg then (prodN hi (pickS hi.neg hi' lo'),prodN lo (pickS lo.neg lo' hi')) else (prodN lo (pickS lo.neg hi' lo'),prodN hi (pickS hi.neg lo' hi'))
def prodsN (lo hi lo' hi':DR):DR×DR :=
 if !lo'.neg || !aboveI hi' then prods1 lo hi lo' hi' else if !lo.neg || !aboveI hi then prods1 lo' hi' lo hi else (grN (prodN lo hi') (prodN hi lo'),grN (prodN lo lo') (prodN hi hi'))
def PrP (w:World) (x:DR×DR) (e:Ending) (w':World):Prop:=∃ A n c B m d,e=.returned (.tuple #[.agg #[.bool x.1.neg,.slice A n c,.int .i64 x.1.e],.agg #[.bool x.2.neg,.slice B m d,.int .i64 x.2.e]])∧Num w' (.slice A n c) x.1.m∧Num w' (.slice B m d) x.2.m∧Below w.heap.size w w'
theorem KC.bel {T:TypeId} {w w':World} {g B:Nat} {cs:Array Value} (h:KC T w g cs) (b:Below B w w') (hg:g < B):KC T w' g cs:=⟨(b.block g hg).trans h.1,Nat.lt_of_lt_of_le h.2 b.size⟩
theorem Pu.give2 {w wi:World} {ks:List (TypeId×Nat×Array Value)} {ns:List (Value×Nat)} (h:Pu w wi ks ns) {T U:TypeId} {g1 g2:Nat} (k1:KC T wi g1 zd) (k2:KC U wi g2 zd) (h1:w.heap.size≤g1) (h2:w.heap.size≤g2) (hne:g2≠g1) {v u:Value} {V U':Nat} (n:Num wi v V) (n':Num wi u U') (x y z a b c:Value) :
 Num (put3 (put3 wi g1 x y z) g2 a b c) v V∧Num (put3 (put3 wi g1 x y z) g2 a b c) u U'∧Below w.heap.size w (put3 (put3 wi g1 x y z) g2 a b c):=by
 have k2':=k2.only (only_put3 wi g1 x y z) hne
 exact ⟨num_put3 (num_put3 n k1 x y z) k2' a b c,num_put3 (num_put3 n' k1 x y z) k2' a b c,below_only (below_only h.bel (only_put3 _ _ _ _ _) h1) (only_put3 _ _ _ _ _) h2⟩
theorem pu66 (w:World) (x y:Array Value):Pu w ((((w.alloc (.cells x 31)).alloc (.cells y 31)).alloc (.cells zd 78)).alloc (.cells zd 78))
 [(78,w.heap.size+1+1+1,zd),(78,w.heap.size+1+1,zd),(31,w.heap.size+1,y),(31,w.heap.size,x)] []:=by
 have h:=(pu33 31 31 78 w x y zd).alloc 78 zd
 rw [show (((w.alloc (.cells x 31)).alloc (.cells y 31)).alloc (.cells zd 78)).heap.size=w.heap.size+1+1+1 by simp] at h
 exact h
structure DN (w:World) (A:Option Addr) (n c:Nat) (r:DR):Prop where
 num:Num w (.slice A n c) r.m
 pl:PlainR r
theorem DN.below {w w':World} {A:Option Addr} {n c:Nat} {r:DR} (h:DN w A n c r) (b:Below w.heap.size w w'):DN w' A n c r:=⟨h.num.below b,h.pl⟩
theorem pick_pl {b:Bool} {r s:DR} (h1:PlainR r) (h2:PlainR s):PlainR (pickS b r s):=by unfold pickS;split <;> assumption
set_option maxRecDepth 8000 in
set_option maxHeartbeats 4000000 in
theorem products_pos {lo hi lo' hi':DR} {A B A' B':Option Addr} {n c m d n' c' m' d':Nat} (w:World) (ha:DN w A n c lo) (hb:DN w B m d hi) (ha':DN w A' n' c' lo') (hb':DN w B' m' d' hi') (hs:lo'.neg=false) :
 Calls Tryz.prog 71 #[spv lo.neg A n c lo.e hi.neg B m d hi.e,spv false A' n' c' lo'.e hi'.neg B' m' d' hi'.e] w (PrP w (prods1 lo hi lo' hi')):=by
 have HT:Hid (prods1 lo hi lo' hi'=(prodN lo (pickS lo.neg hi' lo'),prodN hi (pickS hi.neg lo' hi'))):=Lib.hid (by unfold prods1;rw [hs];rfl)
 have E1:Hid (∀ w',Below w.heap.size w w'→Calls Tryz.prog 128 #[.bool lo.neg,dyv hi'.neg B' m' d' hi'.e,dyv false A' n' c' lo'.e] w' (DOne w' (pickS lo.neg hi' lo'))):=Lib.hid (fun w' b=>by rw [← hs];exact either_any _ w' (hb'.below b).num (ha'.below b).num)
 have E2:Hid (∀ w',Below w.heap.size w w'→Calls Tryz.prog 128 #[.bool hi.neg,dyv false A' n' c' lo'.e,dyv hi'.neg B' m' d' hi'.e] w' (DOne w' (pickS hi.neg lo' hi'))):=Lib.hid (fun w' b=>by rw [← hs];exact either_any _ w' (ha'.below b).num (hb'.below b).num)
 have F1:Hid (∀ w' X x y,Below w.heap.size w w'→Num w' (.slice X x y) (pickS lo.neg hi' lo').m→Calls Tryz.prog 127 #[dyv lo.neg A n c lo.e,dyv (pickS lo.neg hi' lo').neg X x y (pickS lo.neg hi' lo').e] w' (DOne w' (prodN lo (pickS lo.neg hi' lo')))):=Lib.hid (fun w' X x y b h=>product_any w' (ha.below b).num h ha.pl (pick_pl hb'.pl ha'.pl))
 have F2:Hid (∀ w' X x y,Below w.heap.size w w'→Num w' (.slice X x y) (pickS hi.neg lo' hi').m→Calls Tryz.prog 127 #[dyv hi.neg B m d hi.e,dyv (pickS hi.neg lo' hi').neg X x y (pickS hi.neg lo' hi').e] w' (DOne w' (prodN hi (pickS hi.neg lo' hi')))):=Lib.hid (fun w' X x y b h=>product_any w' (hb.below b).num h hb.pl (pick_pl ha'.pl hb'.pl))
 have HC:Hid (∀ w' ns,Pu w w' [(78,w.heap.size+1+1+1,zd),(78,w.heap.size+1+1,zd),(31,w.heap.size+1,#[.bool false,.slice A' n' c',.int .i64 lo'.e,.bool hi'.neg,.slice B' m' d',.int .i64 hi'.e]),(31,w.heap.size,#[.bool lo.neg,.slice A n c,.int .i64 lo.e,.bool hi.neg,.slice B m d,.int .i64 hi.e])] ns→w'.cell? ⟨w.heap.size,0,none⟩=some (.bool lo.neg)∧w'.cell? ⟨w.heap.size,1,none⟩=some (.slice A n c)∧w'.cell? ⟨w.heap.size,2,none⟩=some (.int .i64 lo.e)∧w'.cell? ⟨w.heap.size,3,none⟩=some (.bool hi.neg)∧w'.cell? ⟨w.heap.size,4,none⟩=some (.slice B m d)∧w'.cell? ⟨w.heap.size,5,none⟩=some (.int .i64 hi.e)∧w'.cell? ⟨w.heap.size+1,0,none⟩=some (.bool false)∧w'.cell? ⟨w.heap.size+1,1,none⟩=some (.slice A' n' c')∧w'.cell? ⟨w.heap.size+1,2,none⟩=some (.int .i64 lo'.e)∧w'.cell? ⟨w.heap.size+1,3,none⟩=some (.bool hi'.neg)∧w'.cell? ⟨w.heap.size+1,4,none⟩=some (.slice B' m' d')∧w'.cell? ⟨w.heap.size+1,5,none⟩=some (.int .i64 hi'.e)):=Lib.hid (fun w' ns h=>⟨h.ks.2.2.2.1.at_ 0 _ rfl,h.ks.2.2.2.1.at_ 1 _ rfl,h.ks.2.2.2.1.at_ 2 _ rfl,h.ks.2.2.2.1.at_ 3 _ rfl,h.ks.2.2.2.1.at_ 4 _ rfl,h.ks.2.2.2.1.at_ 5 _ rfl,h.ks.2.2.1.at_ 0 _ rfl,h.ks.2.2.1.at_ 1 _ rfl,h.ks.2.2.1.at_ 2 _ rfl,h.ks.2.2.1.at_ 3 _ rfl,h.ks.2.2.1.at_ 4 _ rfl,h.ks.2.2.1.at_ 5 _ rfl⟩)
 have HK:Hid (∀ w' w9 ns,Pu w w' [(78,w.heap.size+1+1+1,zd),(78,w.heap.size+1+1,zd),(31,w.heap.size+1,#[.bool false,.slice A' n' c',.int .i64 lo'.e,.bool hi'.neg,.slice B' m' d',.int .i64 hi'.e]),(31,w.heap.size,#[.bool lo.neg,.slice A n c,.int .i64 lo.e,.bool hi.neg,.slice B m d,.int .i64 hi.e])] ns→Below (w.heap.size+2) w' w9→w9.cell? ⟨w.heap.size,0,none⟩=some (.bool lo.neg)∧w9.cell? ⟨w.heap.size,1,none⟩=some (.slice A n c)∧w9.cell? ⟨w.heap.size,2,none⟩=some (.int .i64 lo.e)∧w9.cell? ⟨w.heap.size,3,none⟩=some (.bool hi.neg)∧w9.cell? ⟨w.heap.size,4,none⟩=some (.slice B m d)∧w9.cell? ⟨w.heap.size,5,none⟩=some (.int .i64 hi.e)∧w9.cell? ⟨w.heap.size+1,0,none⟩=some (.bool false)∧w9.cell? ⟨w.heap.size+1,1,none⟩=some (.slice A' n' c')∧w9.cell? ⟨w.heap.size+1,2,none⟩=some (.int .i64 lo'.e)∧w9.cell? ⟨w.heap.size+1,3,none⟩=some (.bool hi'.neg)∧w9.cell? ⟨w.heap.size+1,4,none⟩=some (.slice B' m' d')∧w9.cell? ⟨w.heap.size+1,5,none⟩=some (.int .i64 hi'.e)):=Lib.hid (fun w' w9 ns h b=>⟨(h.ks.2.2.2.1.bel b (by omega)).at_ 0 _ rfl,(h.ks.2.2.2.1.bel b (by omega)).at_ 1 _ rfl,(h.ks.2.2.2.1.bel b (by omega)).at_ 2 _ rfl,(h.ks.2.2.2.1.bel b (by omega)).at_ 3 _ rfl,(h.ks.2.2.2.1.bel b (by omega)).at_ 4 _ rfl,(h.ks.2.2.2.1.bel b (by omega)).at_ 5 _ rfl,(h.ks.2.2.1.bel b (by omega)).at_ 0 _ rfl,(h.ks.2.2.1.bel b (by omega)).at_ 1 _ rfl,(h.ks.2.2.1.bel b (by omega)).at_ 2 _ rfl,(h.ks.2.2.1.bel b (by omega)).at_ 3 _ rfl,(h.ks.2.2.1.bel b (by omega)).at_ 4 _ rfl,(h.ks.2.2.1.bel b (by omega)).at_ 5 _ rfl⟩)
 have P:=pu66 w #[.bool lo.neg,.slice A n c,.int .i64 lo.e,.bool hi.neg,.slice B m d,.int .i64 hi.e] #[.bool false,.slice A' n' c',.int .i64 lo'.e,.bool hi'.neg,.slice B' m' d',.int .i64 hi'.e]
 generalize prodN lo (pickS lo.neg hi' lo')=z1 at *
 generalize prodN hi (pickS hi.neg lo' hi')=z2 at *
 generalize (pickS lo.neg hi' lo')=u at *
 generalize (pickS hi.neg lo' hi')=v at *
 clear hs ha hb ha' hb'
 have ka0:=P.ks.2.2.2.1.at_ 0 _ rfl
 have kb0:=P.ks.2.2.1.at_ 0 _ rfl
 have ka1:=P.ks.2.2.2.1.at_ 1 _ rfl
 have kb1:=P.ks.2.2.1.at_ 1 _ rfl
 have ka2:=P.ks.2.2.2.1.at_ 2 _ rfl
 have kb2:=P.ks.2.2.1.at_ 2 _ rfl
 have ka3:=P.ks.2.2.2.1.at_ 3 _ rfl
 have kb3:=P.ks.2.2.1.at_ 3 _ rfl
 have ka4:=P.ks.2.2.2.1.at_ 4 _ rfl
 have kb4:=P.ks.2.2.1.at_ 4 _ rfl
 have ka5:=P.ks.2.2.2.1.at_ 5 _ rfl
 have kb5:=P.ks.2.2.1.at_ 5 _ rfl
 go_enter Tryz.func71,Tryz.ntmps71
 go_upto_region 2 with fail
 clear ka0 kb0 ka1 kb1 ka2 kb2 ka3 kb3 ka4 kb4 ka5 kb5
 generalize (((w.alloc (co6 (.bool lo.neg) (.slice A n c) (.int .i64 lo.e) (.bool hi.neg) (.slice B m d) (.int .i64 hi.e))).alloc (co6 (.bool false) (.slice A' n' c') (.int .i64 lo'.e) (.bool hi'.neg) (.slice B' m' d') (.int .i64 hi'.e))).alloc (.cells zd 78)).alloc (.cells zd 78)=w1 at *
 have PC:=P.drew
 clear P
 have XS:=HC.out _ _ PC
 go_region_held3 (fun w'=>w'.cell? ⟨w.heap.size,0,none⟩=some (.bool lo.neg)∧w'.cell? ⟨w.heap.size,1,none⟩=some (.slice A n c)∧w'.cell? ⟨w.heap.size,2,none⟩=some (.int .i64 lo.e)∧w'.cell? ⟨w.heap.size,3,none⟩=some (.bool hi.neg)∧w'.cell? ⟨w.heap.size,4,none⟩=some (.slice B m d)∧w'.cell? ⟨w.heap.size,5,none⟩=some (.int .i64 hi.e)∧w'.cell? ⟨w.heap.size+1,0,none⟩=some (.bool false)∧w'.cell? ⟨w.heap.size+1,1,none⟩=some (.slice A' n' c')∧w'.cell? ⟨w.heap.size+1,2,none⟩=some (.int .i64 lo'.e)∧w'.cell? ⟨w.heap.size+1,3,none⟩=some (.bool hi'.neg)∧w'.cell? ⟨w.heap.size+1,4,none⟩=some (.slice B' m' d')∧w'.cell? ⟨w.heap.size+1,5,none⟩=some (.int .i64 hi'.e))
  (first | with_reducible exact HC.out v4 _ P9 | (refine HK.out v4 _ _ P9 ?_;with_reducible exact below_put3 (Below.refl _ _) (by omega) (by omega) _ _ _) | (refine HK.out v4 _ _ P9 ?_;with_reducible exact below_put3 (below_put3 (Below.refl _ _) (by omega) (by omega) _ _ _) (by omega) (by simp only [World.setCell,Array.size_modify];omega) _ _ _) | with_reducible exact HC.out _ _ PC | with_reducible exact XS)
  (first
   | (go_at_call_of 128 (Value.bool lo.neg);refine (E1.out _ PC.bel).mono ?_;rintro e' v1 ⟨X1,x1,y1,rfl,m1,b1⟩;have PQ:=(PC.below b1).num m1;clear PC;have PC:=PQ;clear PQ;clear m1 b1)
   | (go_at_call_of 128 (Value.bool hi.neg);refine (E2.out _ PC.bel).mono ?_;rintro e' v3 ⟨X3,x3,y3,rfl,m3,b3⟩;have PQ:=(PC.below b3).num m3;clear PC;have PC:=PQ;clear PQ;clear m3 b3)
   | (go_at_call_of 127 (Value.agg #[Value.bool lo.neg,Value.slice A n c,Value.int .i64 lo.e]);refine (F1.out _ _ _ _ PC.bel PC.ns.1).mono ?_;rintro e' v2 ⟨X2,x2,y2,rfl,m2,b2⟩;have PQ:=(PC.below b2).num m2;clear PC;have PC:=PQ;clear PQ;clear m2 b2)
   | (go_at_call_of 127 (Value.agg #[Value.bool hi.neg,Value.slice B m d,Value.int .i64 hi.e]);refine (F2.out _ _ _ _ PC.bel PC.ns.1).mono ?_;rintro e' v4 ⟨X4,x4,y4,rfl,m4,b4⟩;have P9:=(PC.below b4).num m4;have hz9:=P9.ks.1.2;have q0:=P9.ks.2.1.at_ 0 _ rfl;have q3:=P9.ks.1.at_ 0 _ rfl;have qf0:=P9.ks.2.1.fr 0;have qf3:=P9.ks.1.fr 0;have q1:=P9.ks.2.1.at_ 1 _ rfl;have q4:=P9.ks.1.at_ 1 _ rfl;have qf1:=P9.ks.2.1.fr 1;have qf4:=P9.ks.1.fr 1;have q2:=P9.ks.2.1.at_ 2 _ rfl;have q5:=P9.ks.1.at_ 2 _ rfl;have qf2:=P9.ks.2.1.fr 2;have qf5:=P9.ks.1.fr 2))
 go_wp2_with fail
 rw [HT.out]
 obtain ⟨n1',n2',hb9⟩:=P9.give2 P9.ks.2.1 P9.ks.1 (by omega) (by omega) (by omega) P9.ns.2.2.1 P9.ns.1 (.bool z1.neg) (.slice X2 x2 y2) (.int .i64 z1.e) (.bool z2.neg) (.slice X4 x4 y4) (.int .i64 z2.e)
 exact bodyPost_ret (v:=.tuple #[.agg #[.bool z1.neg,.slice X2 x2 y2,.int .i64 z1.e],.agg #[.bool z2.neg,.slice X4 x4 y4,.int .i64 z2.e]]) (by simp [results,Tryz.results71,go_sem,q0,q1,q2,q3,q4,q5]) rfl ⟨X2,x2,y2,X4,x4,y4,rfl,n1',n2',hb9⟩
set_option maxRecDepth 8000 in
set_option maxHeartbeats 4000000 in
theorem products_neg {lo hi lo' hi':DR} {A B A' B':Option Addr} {n c m d n' c' m' d':Nat} (w:World) (ha:DN w A n c lo) (hb:DN w B m d hi) (ha':DN w A' n' c' lo') (hb':DN w B' m' d' hi') (hs:lo'.neg=true) (h1:aboveI hi'=false) :
 Calls Tryz.prog 71 #[spv lo.neg A n c lo.e hi.neg B m d hi.e,spv true A' n' c' lo'.e hi'.neg B' m' d' hi'.e] w (PrP w (prods1 lo hi lo' hi')):=by
 have HT:Hid (prods1 lo hi lo' hi'=(prodN hi (pickS hi.neg hi' lo'),prodN lo (pickS lo.neg lo' hi'))):=Lib.hid (by unfold prods1;rw [hs];rfl)
 have AB:Hid (∀ w',Below w.heap.size w w'→Calls Tryz.prog 129 #[dyv hi'.neg B' m' d' hi'.e] w' (BoolPost w' false)):=Lib.hid (fun w' b=>by
  have:=above_any w' (hb'.below b).num
  rw [h1] at this
  exact this)
 clear h1
 have E1:Hid (∀ w',Below w.heap.size w w'→Calls Tryz.prog 128 #[.bool hi.neg,dyv hi'.neg B' m' d' hi'.e,dyv true A' n' c' lo'.e] w' (DOne w' (pickS hi.neg hi' lo'))):=Lib.hid (fun w' b=>by rw [← hs];exact either_any _ w' (hb'.below b).num (ha'.below b).num)
 have E2:Hid (∀ w',Below w.heap.size w w'→Calls Tryz.prog 128 #[.bool lo.neg,dyv true A' n' c' lo'.e,dyv hi'.neg B' m' d' hi'.e] w' (DOne w' (pickS lo.neg lo' hi'))):=Lib.hid (fun w' b=>by rw [← hs];exact either_any _ w' (ha'.below b).num (hb'.below b).num)
 have F1:Hid (∀ w' X x y,Below w.heap.size w w'→Num w' (.slice X x y) (pickS hi.neg hi' lo').m→Calls Tryz.prog 127 #[dyv hi.neg B m d hi.e,dyv (pickS hi.neg hi' lo').neg X x y (pickS hi.neg hi' lo').e] w' (DOne w' (prodN hi (pickS hi.neg hi' lo')))):=Lib.hid (fun w' X x y b h=>product_any w' (hb.below b).num h hb.pl (pick_pl hb'.pl ha'.pl))
 have F2:Hid (∀ w' X x y,Below w.heap.size w w'→Num w' (.slice X x y) (pickS lo.neg lo' hi').m→Calls Tryz.prog 127 #[dyv lo.neg A n c lo.e,dyv (pickS lo.neg lo' hi').neg X x y (pickS lo.neg lo' hi').e] w' (DOne w' (prodN lo (pickS lo.neg lo' hi')))):=Lib.hid (fun w' X x y b h=>product_any w' (ha.below b).num h ha.pl (pick_pl ha'.pl hb'.pl))
 have HC:Hid (∀ w' ns,Pu w w' [(78,w.heap.size+1+1+1,zd),(78,w.heap.size+1+1,zd),(31,w.heap.size+1,#[.bool true,.slice A' n' c',.int .i64 lo'.e,.bool hi'.neg,.slice B' m' d',.int .i64 hi'.e]),(31,w.heap.size,#[.bool lo.neg,.slice A n c,.int .i64 lo.e,.bool hi.neg,.slice B m d,.int .i64 hi.e])] ns→w'.cell? ⟨w.heap.size,0,none⟩=some (.bool lo.neg)∧w'.cell? ⟨w.heap.size,1,none⟩=some (.slice A n c)∧w'.cell? ⟨w.heap.size,2,none⟩=some (.int .i64 lo.e)∧w'.cell? ⟨w.heap.size,3,none⟩=some (.bool hi.neg)∧w'.cell? ⟨w.heap.size,4,none⟩=some (.slice B m d)∧w'.cell? ⟨w.heap.size,5,none⟩=some (.int .i64 hi.e)∧w'.cell? ⟨w.heap.size+1,0,none⟩=some (.bool true)∧w'.cell? ⟨w.heap.size+1,1,none⟩=some (.slice A' n' c')∧w'.cell? ⟨w.heap.size+1,2,none⟩=some (.int .i64 lo'.e)∧w'.cell? ⟨w.heap.size+1,3,none⟩=some (.bool hi'.neg)∧w'.cell? ⟨w.heap.size+1,4,none⟩=some (.slice B' m' d')∧w'.cell? ⟨w.heap.size+1,5,none⟩=some (.int .i64 hi'.e)):=Lib.hid (fun w' ns h=>⟨h.ks.2.2.2.1.at_ 0 _ rfl,h.ks.2.2.2.1.at_ 1 _ rfl,h.ks.2.2.2.1.at_ 2 _ rfl,h.ks.2.2.2.1.at_ 3 _ rfl,h.ks.2.2.2.1.at_ 4 _ rfl,h.ks.2.2.2.1.at_ 5 _ rfl,h.ks.2.2.1.at_ 0 _ rfl,h.ks.2.2.1.at_ 1 _ rfl,h.ks.2.2.1.at_ 2 _ rfl,h.ks.2.2.1.at_ 3 _ rfl,h.ks.2.2.1.at_ 4 _ rfl,h.ks.2.2.1.at_ 5 _ rfl⟩)
 have HK:Hid (∀ w' w9 ns,Pu w w' [(78,w.heap.size+1+1+1,zd),(78,w.heap.size+1+1,zd),(31,w.heap.size+1,#[.bool true,.slice A' n' c',.int .i64 lo'.e,.bool hi'.neg,.slice B' m' d',.int .i64 hi'.e]),(31,w.heap.size,#[.bool lo.neg,.slice A n c,.int .i64 lo.e,.bool hi.neg,.slice B m d,.int .i64 hi.e])] ns→Below (w.heap.size+2) w' w9→w9.cell? ⟨w.heap.size,0,none⟩=some (.bool lo.neg)∧w9.cell? ⟨w.heap.size,1,none⟩=some (.slice A n c)∧w9.cell? ⟨w.heap.size,2,none⟩=some (.int .i64 lo.e)∧w9.cell? ⟨w.heap.size,3,none⟩=some (.bool hi.neg)∧w9.cell? ⟨w.heap.size,4,none⟩=some (.slice B m d)∧w9.cell? ⟨w.heap.size,5,none⟩=some (.int .i64 hi.e)∧w9.cell? ⟨w.heap.size+1,0,none⟩=some (.bool true)∧w9.cell? ⟨w.heap.size+1,1,none⟩=some (.slice A' n' c')∧w9.cell? ⟨w.heap.size+1,2,none⟩=some (.int .i64 lo'.e)∧w9.cell? ⟨w.heap.size+1,3,none⟩=some (.bool hi'.neg)∧w9.cell? ⟨w.heap.size+1,4,none⟩=some (.slice B' m' d')∧w9.cell? ⟨w.heap.size+1,5,none⟩=some (.int .i64 hi'.e)):=Lib.hid (fun w' w9 ns h b=>⟨(h.ks.2.2.2.1.bel b (by omega)).at_ 0 _ rfl,(h.ks.2.2.2.1.bel b (by omega)).at_ 1 _ rfl,(h.ks.2.2.2.1.bel b (by omega)).at_ 2 _ rfl,(h.ks.2.2.2.1.bel b (by omega)).at_ 3 _ rfl,(h.ks.2.2.2.1.bel b (by omega)).at_ 4 _ rfl,(h.ks.2.2.2.1.bel b (by omega)).at_ 5 _ rfl,(h.ks.2.2.1.bel b (by omega)).at_ 0 _ rfl,(h.ks.2.2.1.bel b (by omega)).at_ 1 _ rfl,(h.ks.2.2.1.bel b (by omega)).at_ 2 _ rfl,(h.ks.2.2.1.bel b (by omega)).at_ 3 _ rfl,(h.ks.2.2.1.bel b (by omega)).at_ 4 _ rfl,(h.ks.2.2.1.bel b (by omega)).at_ 5 _ rfl⟩)
 have P:=pu66 w #[.bool lo.neg,.slice A n c,.int .i64 lo.e,.bool hi.neg,.slice B m d,.int .i64 hi.e] #[.bool true,.slice A' n' c',.int .i64 lo'.e,.bool hi'.neg,.slice B' m' d',.int .i64 hi'.e]
 generalize prodN hi (pickS hi.neg hi' lo')=z1 at *
 generalize prodN lo (pickS lo.neg lo' hi')=z2 at *
 generalize (pickS hi.neg hi' lo')=u at *
 generalize (pickS lo.neg lo' hi')=v at *
 clear hs ha hb ha' hb'
 have ka0:=P.ks.2.2.2.1.at_ 0 _ rfl
 have kb0:=P.ks.2.2.1.at_ 0 _ rfl
 have ka1:=P.ks.2.2.2.1.at_ 1 _ rfl
 have kb1:=P.ks.2.2.1.at_ 1 _ rfl
 have ka2:=P.ks.2.2.2.1.at_ 2 _ rfl
 have kb2:=P.ks.2.2.1.at_ 2 _ rfl
 have ka3:=P.ks.2.2.2.1.at_ 3 _ rfl
 have kb3:=P.ks.2.2.1.at_ 3 _ rfl
 have ka4:=P.ks.2.2.2.1.at_ 4 _ rfl
 have kb4:=P.ks.2.2.1.at_ 4 _ rfl
 have ka5:=P.ks.2.2.2.1.at_ 5 _ rfl
 have kb5:=P.ks.2.2.1.at_ 5 _ rfl
 go_enter Tryz.func71,Tryz.ntmps71
 go_upto_region 3 with fail
 generalize (((w.alloc (co6 (.bool lo.neg) (.slice A n c) (.int .i64 lo.e) (.bool hi.neg) (.slice B m d) (.int .i64 hi.e))).alloc (co6 (.bool true) (.slice A' n' c') (.int .i64 lo'.e) (.bool hi'.neg) (.slice B' m' d') (.int .i64 hi'.e))).alloc (.cells zd 78)).alloc (.cells zd 78)=w1 at *
 go_wp2_with fail
 refine (AB.out _ P.bel).mono ?_
 rintro e' w2 ⟨rfl,b2⟩
 replace P:=P.below b2
 clear b2 AB ka0 kb0 ka1 kb1 ka2 kb2 ka3 kb3 ka4 kb4 ka5 kb5
 have ka0:=P.ks.2.2.2.1.at_ 0 _ rfl
 have kb0:=P.ks.2.2.1.at_ 0 _ rfl
 have ka1:=P.ks.2.2.2.1.at_ 1 _ rfl
 have kb1:=P.ks.2.2.1.at_ 1 _ rfl
 have ka2:=P.ks.2.2.2.1.at_ 2 _ rfl
 have kb2:=P.ks.2.2.1.at_ 2 _ rfl
 have ka3:=P.ks.2.2.2.1.at_ 3 _ rfl
 have kb3:=P.ks.2.2.1.at_ 3 _ rfl
 have ka4:=P.ks.2.2.2.1.at_ 4 _ rfl
 have kb4:=P.ks.2.2.1.at_ 4 _ rfl
 have ka5:=P.ks.2.2.2.1.at_ 5 _ rfl
 have kb5:=P.ks.2.2.1.at_ 5 _ rfl
 go_upto_region 4 with fail
 clear ka0 kb0 ka1 kb1 ka2 kb2 ka3 kb3 ka4 kb4 ka5 kb5
 have PC:=P.drew
 clear P
 have XS:=HC.out _ _ PC
 go_region_held3 (fun w'=>w'.cell? ⟨w.heap.size,0,none⟩=some (.bool lo.neg)∧w'.cell? ⟨w.heap.size,1,none⟩=some (.slice A n c)∧w'.cell? ⟨w.heap.size,2,none⟩=some (.int .i64 lo.e)∧w'.cell? ⟨w.heap.size,3,none⟩=some (.bool hi.neg)∧w'.cell? ⟨w.heap.size,4,none⟩=some (.slice B m d)∧w'.cell? ⟨w.heap.size,5,none⟩=some (.int .i64 hi.e)∧w'.cell? ⟨w.heap.size+1,0,none⟩=some (.bool true)∧w'.cell? ⟨w.heap.size+1,1,none⟩=some (.slice A' n' c')∧w'.cell? ⟨w.heap.size+1,2,none⟩=some (.int .i64 lo'.e)∧w'.cell? ⟨w.heap.size+1,3,none⟩=some (.bool hi'.neg)∧w'.cell? ⟨w.heap.size+1,4,none⟩=some (.slice B' m' d')∧w'.cell? ⟨w.heap.size+1,5,none⟩=some (.int .i64 hi'.e))
  (first | with_reducible exact HC.out v4 _ P9 | (refine HK.out v4 _ _ P9 ?_;with_reducible exact below_put3 (Below.refl _ _) (by omega) (by omega) _ _ _) | (refine HK.out v4 _ _ P9 ?_;with_reducible exact below_put3 (below_put3 (Below.refl _ _) (by omega) (by omega) _ _ _) (by omega) (by simp only [World.setCell,Array.size_modify];omega) _ _ _) | with_reducible exact HC.out _ _ PC | with_reducible exact XS)
  (first
   | (go_at_call_of 128 (Value.bool hi.neg);refine (E1.out _ PC.bel).mono ?_;rintro e' v1 ⟨X1,x1,y1,rfl,m1,b1⟩;have PQ:=(PC.below b1).num m1;clear PC;have PC:=PQ;clear PQ;clear m1 b1)
   | (go_at_call_of 128 (Value.bool lo.neg);refine (E2.out _ PC.bel).mono ?_;rintro e' v3 ⟨X3,x3,y3,rfl,m3,b3⟩;have PQ:=(PC.below b3).num m3;clear PC;have PC:=PQ;clear PQ;clear m3 b3)
   | (go_at_call_of 127 (Value.agg #[Value.bool hi.neg,Value.slice B m d,Value.int .i64 hi.e]);refine (F1.out _ _ _ _ PC.bel PC.ns.1).mono ?_;rintro e' v2 ⟨X2,x2,y2,rfl,m2,b2⟩;have PQ:=(PC.below b2).num m2;clear PC;have PC:=PQ;clear PQ;clear m2 b2)
   | (go_at_call_of 127 (Value.agg #[Value.bool lo.neg,Value.slice A n c,Value.int .i64 lo.e]);refine (F2.out _ _ _ _ PC.bel PC.ns.1).mono ?_;rintro e' v4 ⟨X4,x4,y4,rfl,m4,b4⟩;have P9:=(PC.below b4).num m4;have hz9:=P9.ks.1.2;have q0:=P9.ks.2.1.at_ 0 _ rfl;have q3:=P9.ks.1.at_ 0 _ rfl;have qf0:=P9.ks.2.1.fr 0;have qf3:=P9.ks.1.fr 0;have q1:=P9.ks.2.1.at_ 1 _ rfl;have q4:=P9.ks.1.at_ 1 _ rfl;have qf1:=P9.ks.2.1.fr 1;have qf4:=P9.ks.1.fr 1;have q2:=P9.ks.2.1.at_ 2 _ rfl;have q5:=P9.ks.1.at_ 2 _ rfl;have qf2:=P9.ks.2.1.fr 2;have qf5:=P9.ks.1.fr 2))
 go_wp2_with fail
 rw [HT.out]
 obtain ⟨n1',n2',hb9⟩:=P9.give2 P9.ks.2.1 P9.ks.1 (by omega) (by omega) (by omega) P9.ns.2.2.1 P9.ns.1 (.bool z1.neg) (.slice X2 x2 y2) (.int .i64 z1.e) (.bool z2.neg) (.slice X4 x4 y4) (.int .i64 z2.e)
 exact bodyPost_ret (v:=.tuple #[.agg #[.bool z1.neg,.slice X2 x2 y2,.int .i64 z1.e],.agg #[.bool z2.neg,.slice X4 x4 y4,.int .i64 z2.e]]) (by simp [results,Tryz.results71,go_sem,q0,q1,q2,q3,q4,q5]) rfl ⟨X2,x2,y2,X4,x4,y4,rfl,n1',n2',hb9⟩
end Go.Proofs.YtmbmohibpkepdaaGreatDoor
namespace Go.Proofs.YtmbmohibpkepdaaGreatDoor
open Go.RowKit
set_option maxRecDepth 8000 in
set_option maxHeartbeats 4000000 in
theorem products_swap1 {lo hi lo' hi':DR} {A B A' B':Option Addr} {n c m d n' c' m' d':Nat} (w:World) (ha:DN w A n c lo) (hb:DN w B m d hi) (ha':DN w A' n' c' lo') (hb':DN w B' m' d' hi') (hs:lo'.neg=true) (h1:aboveI hi'=true) (hs1:lo.neg=false) :
 Calls Tryz.prog 71 #[spv false A n c lo.e hi.neg B m d hi.e,spv true A' n' c' lo'.e hi'.neg B' m' d' hi'.e] w (PrP w (prods1 lo' hi' lo hi)):=by
 have PD:Hid (∀ w',Below w.heap.size w w'→Calls Tryz.prog 71 #[spv true A' n' c' lo'.e hi'.neg B' m' d' hi'.e,spv false A n c lo.e hi.neg B m d hi.e] w' (PrP w' (prods1 lo' hi' lo hi))):=Lib.hid (fun w' b=>by have:=products_pos w' (ha'.below b) (hb'.below b) (ha.below b) (hb.below b) hs1;rw [hs] at this;exact this)
 have A1:Hid (∀ w',Below w.heap.size w w'→Calls Tryz.prog 129 #[dyv hi'.neg B' m' d' hi'.e] w' (BoolPost w' true)):=Lib.hid (fun w' b=>by
  have:=above_any w' (hb'.below b).num
  rw [h1] at this
  exact this)
 have P:=pu66 w #[.bool false,.slice A n c,.int .i64 lo.e,.bool hi.neg,.slice B m d,.int .i64 hi.e] #[.bool true,.slice A' n' c',.int .i64 lo'.e,.bool hi'.neg,.slice B' m' d',.int .i64 hi'.e]
 clear hs hs1 h1 ha hb ha' hb'
 obtain ⟨x,hx⟩:∃ x,prods1 lo' hi' lo hi=x:=⟨_,rfl⟩
 rw [hx] at PD
 have HT:=Lib.hid hx
 clear hx
 have ka0:=P.ks.2.2.2.1.at_ 0 _ rfl
 have kb0:=P.ks.2.2.1.at_ 0 _ rfl
 have ka1:=P.ks.2.2.2.1.at_ 1 _ rfl
 have kb1:=P.ks.2.2.1.at_ 1 _ rfl
 have ka2:=P.ks.2.2.2.1.at_ 2 _ rfl
 have kb2:=P.ks.2.2.1.at_ 2 _ rfl
 have ka3:=P.ks.2.2.2.1.at_ 3 _ rfl
 have kb3:=P.ks.2.2.1.at_ 3 _ rfl
 have ka4:=P.ks.2.2.2.1.at_ 4 _ rfl
 have kb4:=P.ks.2.2.1.at_ 4 _ rfl
 have ka5:=P.ks.2.2.2.1.at_ 5 _ rfl
 have kb5:=P.ks.2.2.1.at_ 5 _ rfl
 go_enter Tryz.func71,Tryz.ntmps71
 go_upto_region 3 with fail
 generalize (((w.alloc (co6 (.bool false) (.slice A n c) (.int .i64 lo.e) (.bool hi.neg) (.slice B m d) (.int .i64 hi.e))).alloc (co6 (.bool true) (.slice A' n' c') (.int .i64 lo'.e) (.bool hi'.neg) (.slice B' m' d') (.int .i64 hi'.e))).alloc (.cells zd 78)).alloc (.cells zd 78)=w1 at *
 go_wp2_with fail
 refine (A1.out _ P.bel).mono ?_
 rintro e' w2 ⟨rfl,b2⟩
 replace P:=P.below b2
 clear b2 A1 ka0 kb0 ka1 kb1 ka2 kb2 ka3 kb3 ka4 kb4 ka5 kb5
 have ka0:=P.ks.2.2.2.1.at_ 0 _ rfl
 have kb0:=P.ks.2.2.1.at_ 0 _ rfl
 have ka1:=P.ks.2.2.2.1.at_ 1 _ rfl
 have kb1:=P.ks.2.2.1.at_ 1 _ rfl
 have ka2:=P.ks.2.2.2.1.at_ 2 _ rfl
 have kb2:=P.ks.2.2.1.at_ 2 _ rfl
 have ka3:=P.ks.2.2.2.1.at_ 3 _ rfl
 have kb3:=P.ks.2.2.1.at_ 3 _ rfl
 have ka4:=P.ks.2.2.2.1.at_ 4 _ rfl
 have kb4:=P.ks.2.2.1.at_ 4 _ rfl
 have ka5:=P.ks.2.2.2.1.at_ 5 _ rfl
 have kb5:=P.ks.2.2.1.at_ 5 _ rfl
 go_wp2_with fail
 refine (PD.out _ P.bel).mono ?_
 rintro e' w3 ⟨X1,x1,y1,X2,x2,y2,rfl,m1,m2,b3⟩
 replace P:=((P.below b3).num m2).num m1
 clear b3 m1 m2 PD ka0 kb0 ka1 kb1 ka2 kb2 ka3 kb3 ka4 kb4 ka5 kb5
 have hz9:=P.ks.1.2
 have q0:=P.ks.2.1.at_ 0 _ rfl
 have q3:=P.ks.1.at_ 0 _ rfl
 have qf0:=P.ks.2.1.fr 0
 have qf3:=P.ks.1.fr 0
 have q1:=P.ks.2.1.at_ 1 _ rfl
 have q4:=P.ks.1.at_ 1 _ rfl
 have qf1:=P.ks.2.1.fr 1
 have qf4:=P.ks.1.fr 1
 have q2:=P.ks.2.1.at_ 2 _ rfl
 have q5:=P.ks.1.at_ 2 _ rfl
 have qf2:=P.ks.2.1.fr 2
 have qf5:=P.ks.1.fr 2
 go_wp2_with fail
 rw [HT.out]
 obtain ⟨n1',n2',hb9⟩:=P.give2 P.ks.2.1 P.ks.1 (by omega) (by omega) (by omega) P.ns.1 P.ns.2.1 (.bool x.1.neg) (.slice X1 x1 y1) (.int .i64 x.1.e) (.bool x.2.neg) (.slice X2 x2 y2) (.int .i64 x.2.e)
 exact bodyPost_ret (v:=.tuple #[.agg #[.bool x.1.neg,.slice X1 x1 y1,.int .i64 x.1.e],.agg #[.bool x.2.neg,.slice X2 x2 y2,.int .i64 x.2.e]]) (by simp [results,Tryz.results71,go_sem,q0,q1,q2,q3,q4,q5]) rfl ⟨X1,x1,y1,X2,x2,y2,rfl,n1',n2',hb9⟩
set_option maxRecDepth 8000 in
set_option maxHeartbeats 4000000 in
theorem products_swap2 {lo hi lo' hi':DR} {A B A' B':Option Addr} {n c m d n' c' m' d':Nat} (w:World) (ha:DN w A n c lo) (hb:DN w B m d hi) (ha':DN w A' n' c' lo') (hb':DN w B' m' d' hi') (hs:lo'.neg=true) (h1:aboveI hi'=true) (hs1:lo.neg=true) (h3:aboveI hi=false) :
 Calls Tryz.prog 71 #[spv true A n c lo.e hi.neg B m d hi.e,spv true A' n' c' lo'.e hi'.neg B' m' d' hi'.e] w (PrP w (prods1 lo' hi' lo hi)):=by
 have PD:Hid (∀ w',Below w.heap.size w w'→Calls Tryz.prog 71 #[spv true A' n' c' lo'.e hi'.neg B' m' d' hi'.e,spv true A n c lo.e hi.neg B m d hi.e] w' (PrP w' (prods1 lo' hi' lo hi))):=Lib.hid (fun w' b=>by have:=products_neg w' (ha'.below b) (hb'.below b) (ha.below b) (hb.below b) hs1 h3;rw [hs] at this;exact this)
 have A1:Hid (∀ w',Below w.heap.size w w'→Calls Tryz.prog 129 #[dyv hi'.neg B' m' d' hi'.e] w' (BoolPost w' true)):=Lib.hid (fun w' b=>by
  have:=above_any w' (hb'.below b).num
  rw [h1] at this
  exact this)
 have A2:Hid (∀ w',Below w.heap.size w w'→Calls Tryz.prog 129 #[dyv hi.neg B m d hi.e] w' (BoolPost w' false)):=Lib.hid (fun w' b=>by
  have:=above_any w' (hb.below b).num
  rw [h3] at this
  exact this)
 have P:=pu66 w #[.bool true,.slice A n c,.int .i64 lo.e,.bool hi.neg,.slice B m d,.int .i64 hi.e] #[.bool true,.slice A' n' c',.int .i64 lo'.e,.bool hi'.neg,.slice B' m' d',.int .i64 hi'.e]
 clear hs hs1 h1 ha hb ha' hb' h3
 obtain ⟨x,hx⟩:∃ x,prods1 lo' hi' lo hi=x:=⟨_,rfl⟩
 rw [hx] at PD
 have HT:=Lib.hid hx
 clear hx
 have ka0:=P.ks.2.2.2.1.at_ 0 _ rfl
 have kb0:=P.ks.2.2.1.at_ 0 _ rfl
 have ka1:=P.ks.2.2.2.1.at_ 1 _ rfl
 have kb1:=P.ks.2.2.1.at_ 1 _ rfl
 have ka2:=P.ks.2.2.2.1.at_ 2 _ rfl
 have kb2:=P.ks.2.2.1.at_ 2 _ rfl
 have ka3:=P.ks.2.2.2.1.at_ 3 _ rfl
 have kb3:=P.ks.2.2.1.at_ 3 _ rfl
 have ka4:=P.ks.2.2.2.1.at_ 4 _ rfl
 have kb4:=P.ks.2.2.1.at_ 4 _ rfl
 have ka5:=P.ks.2.2.2.1.at_ 5 _ rfl
 have kb5:=P.ks.2.2.1.at_ 5 _ rfl
 go_enter Tryz.func71,Tryz.ntmps71
 go_upto_region 3 with fail
 generalize (((w.alloc (co6 (.bool true) (.slice A n c) (.int .i64 lo.e) (.bool hi.neg) (.slice B m d) (.int .i64 hi.e))).alloc (co6 (.bool true) (.slice A' n' c') (.int .i64 lo'.e) (.bool hi'.neg) (.slice B' m' d') (.int .i64 hi'.e))).alloc (.cells zd 78)).alloc (.cells zd 78)=w1 at *
 go_wp2_with fail
 refine (A1.out _ P.bel).mono ?_
 rintro e' w2 ⟨rfl,b2⟩
 replace P:=P.below b2
 clear b2 A1 ka0 kb0 ka1 kb1 ka2 kb2 ka3 kb3 ka4 kb4 ka5 kb5
 have ka0:=P.ks.2.2.2.1.at_ 0 _ rfl
 have kb0:=P.ks.2.2.1.at_ 0 _ rfl
 have ka1:=P.ks.2.2.2.1.at_ 1 _ rfl
 have kb1:=P.ks.2.2.1.at_ 1 _ rfl
 have ka2:=P.ks.2.2.2.1.at_ 2 _ rfl
 have kb2:=P.ks.2.2.1.at_ 2 _ rfl
 have ka3:=P.ks.2.2.2.1.at_ 3 _ rfl
 have kb3:=P.ks.2.2.1.at_ 3 _ rfl
 have ka4:=P.ks.2.2.2.1.at_ 4 _ rfl
 have kb4:=P.ks.2.2.1.at_ 4 _ rfl
 have ka5:=P.ks.2.2.2.1.at_ 5 _ rfl
 have kb5:=P.ks.2.2.1.at_ 5 _ rfl
 go_wp2_with fail
 refine (A2.out _ P.bel).mono ?_
 rintro e' w2 ⟨rfl,b2⟩
 replace P:=P.below b2
 clear b2 A2 ka0 kb0 ka1 kb1 ka2 kb2 ka3 kb3 ka4 kb4 ka5 kb5
 have ka0:=P.ks.2.2.2.1.at_ 0 _ rfl
 have kb0:=P.ks.2.2.1.at_ 0 _ rfl
 have ka1:=P.ks.2.2.2.1.at_ 1 _ rfl
 have kb1:=P.ks.2.2.1.at_ 1 _ rfl
 have ka2:=P.ks.2.2.2.1.at_ 2 _ rfl
 have kb2:=P.ks.2.2.1.at_ 2 _ rfl
 have ka3:=P.ks.2.2.2.1.at_ 3 _ rfl
 have kb3:=P.ks.2.2.1.at_ 3 _ rfl
 have ka4:=P.ks.2.2.2.1.at_ 4 _ rfl
 have kb4:=P.ks.2.2.1.at_ 4 _ rfl
 have ka5:=P.ks.2.2.2.1.at_ 5 _ rfl
 have kb5:=P.ks.2.2.1.at_ 5 _ rfl
 go_wp2_with fail
 refine (PD.out _ P.bel).mono ?_
 rintro e' w3 ⟨X1,x1,y1,X2,x2,y2,rfl,m1,m2,b3⟩
 replace P:=((P.below b3).num m2).num m1
 clear b3 m1 m2 PD ka0 kb0 ka1 kb1 ka2 kb2 ka3 kb3 ka4 kb4 ka5 kb5
 have hz9:=P.ks.1.2
 have q0:=P.ks.2.1.at_ 0 _ rfl
 have q3:=P.ks.1.at_ 0 _ rfl
 have qf0:=P.ks.2.1.fr 0
 have qf3:=P.ks.1.fr 0
 have q1:=P.ks.2.1.at_ 1 _ rfl
 have q4:=P.ks.1.at_ 1 _ rfl
 have qf1:=P.ks.2.1.fr 1
 have qf4:=P.ks.1.fr 1
 have q2:=P.ks.2.1.at_ 2 _ rfl
 have q5:=P.ks.1.at_ 2 _ rfl
 have qf2:=P.ks.2.1.fr 2
 have qf5:=P.ks.1.fr 2
 go_wp2_with fail
 rw [HT.out]
 obtain ⟨n1',n2',hb9⟩:=P.give2 P.ks.2.1 P.ks.1 (by omega) (by omega) (by omega) P.ns.1 P.ns.2.1 (.bool x.1.neg) (.slice X1 x1 y1) (.int .i64 x.1.e) (.bool x.2.neg) (.slice X2 x2 y2) (.int .i64 x.2.e)
 exact bodyPost_ret (v:=.tuple #[.agg #[.bool x.1.neg,.slice X1 x1 y1,.int .i64 x.1.e],.agg #[.bool x.2.neg,.slice X2 x2 y2,.int .i64 x.2.e]]) (by simp [results,Tryz.results71,go_sem,q0,q1,q2,q3,q4,q5]) rfl ⟨X1,x1,y1,X2,x2,y2,rfl,n1',n2',hb9⟩
theorem Pu.put4 {w wi:World} {T U T1 T2:TypeId} {g4 g5 b a:Nat} {c5 B A:Array Value} {ns:List (Value×Nat)} (h:Pu w wi [(U,g5,c5),(T,g4,zd),(T1,b,B),(T2,a,A)] ns) (hg:w.heap.size≤g4) (h1:g5≠g4) (h2:b≠g4) (h3:a≠g4) (x y z:Value) :
 Pu w (put3 wi g4 x y z) [(U,g5,c5),(T,g4,#[x,y,z]),(T1,b,B),(T2,a,A)] ns:=by
 have o:=only_put3 wi g4 x y z
 exact ⟨below_only h.bel o hg,⟨h.ks.1.only o h1,h.ks.2.1.put3 x y z,h.ks.2.2.1.only o h2,h.ks.2.2.2.1.only o h3,trivial⟩,h.ns.put3 h.ks.2.1 x y z⟩
theorem Pu.put5 {w wi:World} {T U T1 T2:TypeId} {g4 g5 b a:Nat} {c4 B A:Array Value} {ns:List (Value×Nat)} (h:Pu w wi [(U,g5,zd),(T,g4,c4),(T1,b,B),(T2,a,A)] ns) (hg:w.heap.size≤g5) (h1:g4≠g5) (h2:b≠g5) (h3:a≠g5) (x y z:Value) :
 Pu w (put3 wi g5 x y z) [(U,g5,#[x,y,z]),(T,g4,c4),(T1,b,B),(T2,a,A)] ns:=by
 have o:=only_put3 wi g5 x y z
 exact ⟨below_only h.bel o hg,⟨h.ks.1.put3 x y z,h.ks.2.1.only o h1,h.ks.2.2.1.only o h2,h.ks.2.2.2.1.only o h3,trivial⟩,h.ns.put3 h.ks.1 x y z⟩
theorem Pu.give3 {w wi:World} {ks:List (TypeId×Nat×Array Value)} {ns:List (Value×Nat)} (h:Pu w wi ks ns) {T U:TypeId} {g1 g2:Nat} {na nb':Bool} {A B:Option Addr} {n c m d:Nat} {e f:Int} (k1:KC T wi g1 #[.bool na,.slice A n c,.int .i64 e]) (k2:KC U wi g2 #[.bool nb',.slice B m d,.int .i64 f]) (h1:w.heap.size≤g1) (h2:w.heap.size≤g2) (hne:g2≠g1) {v u:Value} {V U':Nat} (n:Num wi v V) (n':Num wi u U') (x y z a b c:Value) :
 Num (put3 (put3 wi g1 x y z) g2 a b c) v V∧Num (put3 (put3 wi g1 x y z) g2 a b c) u U'∧Below w.heap.size w (put3 (put3 wi g1 x y z) g2 a b c):=by
 have k2':=k2.only (only_put3 wi g1 x y z) hne
 exact ⟨num_put3 (num_put3 n k1 x y z) k2' a b c,num_put3 (num_put3 n' k1 x y z) k2' a b c,below_only (below_only h.bel (only_put3 _ _ _ _ _) h1) (only_put3 _ _ _ _ _) h2⟩
theorem neg_pos {r:DR} (h:PlainR r) (hn:r.neg=true):0 < r.m:=by
 rcases Nat.eq_zero_or_pos r.m with h0 | h0
 · have:=(h.zero h0).2;rw [this] at hn;cases hn
 · exact h0
theorem above_pos {r:DR} (h:aboveI r=true):0 < r.m∧r.neg=false:=by
 unfold aboveI at h
 simp at h
 exact ⟨by omega,h.1⟩
theorem gr_prod {r s u v:DR} {A B:Option Addr} {n c m d:Nat} (w:World) (h1:Num w (.slice A n c) (prodN r s).m) (h2:Num w (.slice B m d) (prodN u v).m) (pr:PlainR r) (ps:PlainR s) (pu:PlainR u) (pv:PlainR v) (r0:0 < r.m) (s0:0 < s.m) (u0:0 < u.m) (v0:0 < v.m) :
 Calls Tryz.prog 130 #[dyv (prodN r s).neg A n c (prodN r s).e,dyv (prodN u v).neg B m d (prodN u v).e] w (DOne w (grN (prodN r s) (prodN u v))):=by
 have b1:=nb_mul r.m s.m
 have b2:=nb_mul u.m v.m
 have:=pr.bits
 have:=ps.bits
 have:=pu.bits
 have:=pv.bits
 have:=pr.e1
 have:=pr.e2
 have:=ps.e1
 have:=ps.e2
 have:=pu.e1
 have:=pu.e2
 have:=pv.e1
 have:=pv.e2
 exact greater_any w h1 h2 (Nat.mul_pos r0 s0) (Nat.mul_pos u0 v0) (by show nb (r.m*s.m)≤_;omega) (by show nb (u.m*v.m)≤_;omega) (by show _≤r.e+s.e;omega) (by show r.e+s.e≤_;omega) (by show _≤u.e+v.e;omega) (by show u.e+v.e≤_;omega)
set_option maxRecDepth 8000 in
set_option maxHeartbeats 4000000 in
theorem products_in {lo hi lo' hi':DR} {A B A' B':Option Addr} {n c m d n' c' m' d':Nat} (w:World) (ha:DN w A n c lo) (hb:DN w B m d hi) (ha':DN w A' n' c' lo') (hb':DN w B' m' d' hi') (hs:lo'.neg=true) (h1:aboveI hi'=true) (hs1:lo.neg=true) (h3:aboveI hi=true) :
 Calls Tryz.prog 71 #[spv true A n c lo.e hi.neg B m d hi.e,spv true A' n' c' lo'.e hi'.neg B' m' d' hi'.e] w (PrP w (grN (prodN lo hi') (prodN hi lo'),grN (prodN lo lo') (prodN hi hi'))):=by
 have pha:=neg_pos ha.pl hs1
 have pha':=neg_pos ha'.pl hs
 have phb:=(above_pos h3).1
 have phb':=(above_pos h1).1
 have F1:Hid (∀ w',Below w.heap.size w w'→Calls Tryz.prog 127 #[dyv true A n c lo.e,dyv hi'.neg B' m' d' hi'.e] w' (DOne w' (prodN lo hi'))):=Lib.hid (fun w' b=>by have:=product_any w' (ha.below b).num (hb'.below b).num ha.pl hb'.pl;first | (rw [hs,hs1] at this;exact this) | (rw [hs1] at this;exact this) | (rw [hs] at this;exact this) | exact this)
 have F2:Hid (∀ w',Below w.heap.size w w'→Calls Tryz.prog 127 #[dyv hi.neg B m d hi.e,dyv true A' n' c' lo'.e] w' (DOne w' (prodN hi lo'))):=Lib.hid (fun w' b=>by have:=product_any w' (hb.below b).num (ha'.below b).num hb.pl ha'.pl;first | (rw [hs,hs1] at this;exact this) | (rw [hs1] at this;exact this) | (rw [hs] at this;exact this) | exact this)
 have F3:Hid (∀ w',Below w.heap.size w w'→Calls Tryz.prog 127 #[dyv true A n c lo.e,dyv true A' n' c' lo'.e] w' (DOne w' (prodN lo lo'))):=Lib.hid (fun w' b=>by have:=product_any w' (ha.below b).num (ha'.below b).num ha.pl ha'.pl;first | (rw [hs,hs1] at this;exact this) | (rw [hs1] at this;exact this) | (rw [hs] at this;exact this) | exact this)
 have F4:Hid (∀ w',Below w.heap.size w w'→Calls Tryz.prog 127 #[dyv hi.neg B m d hi.e,dyv hi'.neg B' m' d' hi'.e] w' (DOne w' (prodN hi hi'))):=Lib.hid (fun w' b=>by have:=product_any w' (hb.below b).num (hb'.below b).num hb.pl hb'.pl;first | (rw [hs,hs1] at this;exact this) | (rw [hs1] at this;exact this) | (rw [hs] at this;exact this) | exact this)
 have G1:Hid (∀ w' X x y Z z u,Num w' (.slice X x y) (prodN lo hi').m→Num w' (.slice Z z u) (prodN hi lo').m→Calls Tryz.prog 130 #[dyv (prodN lo hi').neg X x y (prodN lo hi').e,dyv (prodN hi lo').neg Z z u (prodN hi lo').e] w' (DOne w' (grN (prodN lo hi') (prodN hi lo')))):=Lib.hid (fun w' X x y Z z u h1 h2=>gr_prod w' h1 h2 ha.pl hb'.pl hb.pl ha'.pl pha phb' phb pha')
 have G2:Hid (∀ w' X x y Z z u,Num w' (.slice X x y) (prodN lo lo').m→Num w' (.slice Z z u) (prodN hi hi').m→Calls Tryz.prog 130 #[dyv (prodN lo lo').neg X x y (prodN lo lo').e,dyv (prodN hi hi').neg Z z u (prodN hi hi').e] w' (DOne w' (grN (prodN lo lo') (prodN hi hi')))):=Lib.hid (fun w' X x y Z z u h1 h2=>gr_prod w' h1 h2 ha.pl ha'.pl hb.pl hb'.pl pha pha' phb phb')
 have A1:Hid (∀ w',Below w.heap.size w w'→Calls Tryz.prog 129 #[dyv hi'.neg B' m' d' hi'.e] w' (BoolPost w' true)):=Lib.hid (fun w' b=>by
  have:=above_any w' (hb'.below b).num
  rw [h1] at this
  exact this)
 have A2:Hid (∀ w',Below w.heap.size w w'→Calls Tryz.prog 129 #[dyv hi.neg B m d hi.e] w' (BoolPost w' true)):=Lib.hid (fun w' b=>by
  have:=above_any w' (hb.below b).num
  rw [h3] at this
  exact this)
 have P:=pu66 w #[.bool true,.slice A n c,.int .i64 lo.e,.bool hi.neg,.slice B m d,.int .i64 hi.e] #[.bool true,.slice A' n' c',.int .i64 lo'.e,.bool hi'.neg,.slice B' m' d',.int .i64 hi'.e]
 clear hs hs1 h1 h3 ha hb ha' hb' pha pha' phb phb'
 obtain ⟨x,hx⟩:∃ x:DR×DR,(grN (prodN lo hi') (prodN hi lo'),grN (prodN lo lo') (prodN hi hi'))=x:=⟨_,rfl⟩
 have hx1:grN (prodN lo hi') (prodN hi lo')=x.1:=by rw [← hx]
 have hx2:grN (prodN lo lo') (prodN hi hi')=x.2:=by rw [← hx]
 rw [hx1] at G1
 rw [hx2] at G2
 have HT:=Lib.hid hx
 clear hx hx1 hx2
 generalize prodN lo hi'=u1 at *
 generalize prodN hi lo'=u2 at *
 generalize prodN lo lo'=u3 at *
 generalize prodN hi hi'=u4 at *
 have ka0:=P.ks.2.2.2.1.at_ 0 _ rfl
 have kb0:=P.ks.2.2.1.at_ 0 _ rfl
 have ka1:=P.ks.2.2.2.1.at_ 1 _ rfl
 have kb1:=P.ks.2.2.1.at_ 1 _ rfl
 have ka2:=P.ks.2.2.2.1.at_ 2 _ rfl
 have kb2:=P.ks.2.2.1.at_ 2 _ rfl
 have ka3:=P.ks.2.2.2.1.at_ 3 _ rfl
 have kb3:=P.ks.2.2.1.at_ 3 _ rfl
 have ka4:=P.ks.2.2.2.1.at_ 4 _ rfl
 have kb4:=P.ks.2.2.1.at_ 4 _ rfl
 have ka5:=P.ks.2.2.2.1.at_ 5 _ rfl
 have kb5:=P.ks.2.2.1.at_ 5 _ rfl
 go_enter Tryz.func71,Tryz.ntmps71
 go_upto_region 3 with fail
 generalize (((w.alloc (co6 (.bool true) (.slice A n c) (.int .i64 lo.e) (.bool hi.neg) (.slice B m d) (.int .i64 hi.e))).alloc (co6 (.bool true) (.slice A' n' c') (.int .i64 lo'.e) (.bool hi'.neg) (.slice B' m' d') (.int .i64 hi'.e))).alloc (.cells zd 78)).alloc (.cells zd 78)=w1 at *
 go_wp2_with fail
 refine (A1.out _ P.bel).mono ?_
 rintro e' w2 ⟨rfl,b2⟩
 replace P:=P.below b2
 clear b2 A1 ka0 kb0 ka1 kb1 ka2 kb2 ka3 kb3 ka4 kb4 ka5 kb5
 have ka0:=P.ks.2.2.2.1.at_ 0 _ rfl
 have kb0:=P.ks.2.2.1.at_ 0 _ rfl
 have ka1:=P.ks.2.2.2.1.at_ 1 _ rfl
 have kb1:=P.ks.2.2.1.at_ 1 _ rfl
 have ka2:=P.ks.2.2.2.1.at_ 2 _ rfl
 have kb2:=P.ks.2.2.1.at_ 2 _ rfl
 have ka3:=P.ks.2.2.2.1.at_ 3 _ rfl
 have kb3:=P.ks.2.2.1.at_ 3 _ rfl
 have ka4:=P.ks.2.2.2.1.at_ 4 _ rfl
 have kb4:=P.ks.2.2.1.at_ 4 _ rfl
 have ka5:=P.ks.2.2.2.1.at_ 5 _ rfl
 have kb5:=P.ks.2.2.1.at_ 5 _ rfl
 go_wp2_with fail
 refine (A2.out _ P.bel).mono ?_
 rintro e' w2 ⟨rfl,b2⟩
 replace P:=P.below b2
 clear b2 A2 ka0 kb0 ka1 kb1 ka2 kb2 ka3 kb3 ka4 kb4 ka5 kb5
 have ka0:=P.ks.2.2.2.1.at_ 0 _ rfl
 have kb0:=P.ks.2.2.1.at_ 0 _ rfl
 have ka1:=P.ks.2.2.2.1.at_ 1 _ rfl
 have kb1:=P.ks.2.2.1.at_ 1 _ rfl
 have ka2:=P.ks.2.2.2.1.at_ 2 _ rfl
 have kb2:=P.ks.2.2.1.at_ 2 _ rfl
 have ka3:=P.ks.2.2.2.1.at_ 3 _ rfl
 have kb3:=P.ks.2.2.1.at_ 3 _ rfl
 have ka4:=P.ks.2.2.2.1.at_ 4 _ rfl
 have kb4:=P.ks.2.2.1.at_ 4 _ rfl
 have ka5:=P.ks.2.2.2.1.at_ 5 _ rfl
 have kb5:=P.ks.2.2.1.at_ 5 _ rfl
 go_upto_region 7 with fail
 clear ka0 kb0 ka1 kb1 ka2 kb2 ka3 kb3 ka4 kb4 ka5 kb5
 have HC:Hid (∀ w' ns,Pu w w' [(78,w.heap.size+1+1+1,zd),(78,w.heap.size+1+1,zd),(31,w.heap.size+1,#[.bool true,.slice A' n' c',.int .i64 lo'.e,.bool hi'.neg,.slice B' m' d',.int .i64 hi'.e]),(31,w.heap.size,#[.bool true,.slice A n c,.int .i64 lo.e,.bool hi.neg,.slice B m d,.int .i64 hi.e])] ns→w'.cell? ⟨w.heap.size,0,none⟩=some (.bool true)∧w'.cell? ⟨w.heap.size,1,none⟩=some (.slice A n c)∧w'.cell? ⟨w.heap.size,2,none⟩=some (.int .i64 lo.e)∧w'.cell? ⟨w.heap.size,3,none⟩=some (.bool hi.neg)∧w'.cell? ⟨w.heap.size,4,none⟩=some (.slice B m d)∧w'.cell? ⟨w.heap.size,5,none⟩=some (.int .i64 hi.e)∧w'.cell? ⟨w.heap.size+1,0,none⟩=some (.bool true)∧w'.cell? ⟨w.heap.size+1,1,none⟩=some (.slice A' n' c')∧w'.cell? ⟨w.heap.size+1,2,none⟩=some (.int .i64 lo'.e)∧w'.cell? ⟨w.heap.size+1,3,none⟩=some (.bool hi'.neg)∧w'.cell? ⟨w.heap.size+1,4,none⟩=some (.slice B' m' d')∧w'.cell? ⟨w.heap.size+1,5,none⟩=some (.int .i64 hi'.e)):=Lib.hid (fun w' ns h=>by have ka:=h.ks.2.2.2.1;have kb:=h.ks.2.2.1;exact ⟨ka.at_ 0 _ rfl,ka.at_ 1 _ rfl,ka.at_ 2 _ rfl,ka.at_ 3 _ rfl,ka.at_ 4 _ rfl,ka.at_ 5 _ rfl,kb.at_ 0 _ rfl,kb.at_ 1 _ rfl,kb.at_ 2 _ rfl,kb.at_ 3 _ rfl,kb.at_ 4 _ rfl,kb.at_ 5 _ rfl⟩)
 have HK:Hid (∀ w' w9 ns,Pu w w' [(78,w.heap.size+1+1+1,zd),(78,w.heap.size+1+1,zd),(31,w.heap.size+1,#[.bool true,.slice A' n' c',.int .i64 lo'.e,.bool hi'.neg,.slice B' m' d',.int .i64 hi'.e]),(31,w.heap.size,#[.bool true,.slice A n c,.int .i64 lo.e,.bool hi.neg,.slice B m d,.int .i64 hi.e])] ns→Below (w.heap.size+2) w' w9→w9.cell? ⟨w.heap.size,0,none⟩=some (.bool true)∧w9.cell? ⟨w.heap.size,1,none⟩=some (.slice A n c)∧w9.cell? ⟨w.heap.size,2,none⟩=some (.int .i64 lo.e)∧w9.cell? ⟨w.heap.size,3,none⟩=some (.bool hi.neg)∧w9.cell? ⟨w.heap.size,4,none⟩=some (.slice B m d)∧w9.cell? ⟨w.heap.size,5,none⟩=some (.int .i64 hi.e)∧w9.cell? ⟨w.heap.size+1,0,none⟩=some (.bool true)∧w9.cell? ⟨w.heap.size+1,1,none⟩=some (.slice A' n' c')∧w9.cell? ⟨w.heap.size+1,2,none⟩=some (.int .i64 lo'.e)∧w9.cell? ⟨w.heap.size+1,3,none⟩=some (.bool hi'.neg)∧w9.cell? ⟨w.heap.size+1,4,none⟩=some (.slice B' m' d')∧w9.cell? ⟨w.heap.size+1,5,none⟩=some (.int .i64 hi'.e)):=Lib.hid (fun w' w9 ns h b=>by have ka:=h.ks.2.2.2.1.bel b (by omega);have kb:=h.ks.2.2.1.bel b (by omega);exact ⟨ka.at_ 0 _ rfl,ka.at_ 1 _ rfl,ka.at_ 2 _ rfl,ka.at_ 3 _ rfl,ka.at_ 4 _ rfl,ka.at_ 5 _ rfl,kb.at_ 0 _ rfl,kb.at_ 1 _ rfl,kb.at_ 2 _ rfl,kb.at_ 3 _ rfl,kb.at_ 4 _ rfl,kb.at_ 5 _ rfl⟩)
 have PC:=P.drew
 clear P
 have XS:=HC.out _ _ PC
 go_region_held3 (fun w'=>w'.cell? ⟨w.heap.size,0,none⟩=some (.bool true)∧w'.cell? ⟨w.heap.size,1,none⟩=some (.slice A n c)∧w'.cell? ⟨w.heap.size,2,none⟩=some (.int .i64 lo.e)∧w'.cell? ⟨w.heap.size,3,none⟩=some (.bool hi.neg)∧w'.cell? ⟨w.heap.size,4,none⟩=some (.slice B m d)∧w'.cell? ⟨w.heap.size,5,none⟩=some (.int .i64 hi.e)∧w'.cell? ⟨w.heap.size+1,0,none⟩=some (.bool true)∧w'.cell? ⟨w.heap.size+1,1,none⟩=some (.slice A' n' c')∧w'.cell? ⟨w.heap.size+1,2,none⟩=some (.int .i64 lo'.e)∧w'.cell? ⟨w.heap.size+1,3,none⟩=some (.bool hi'.neg)∧w'.cell? ⟨w.heap.size+1,4,none⟩=some (.slice B' m' d')∧w'.cell? ⟨w.heap.size+1,5,none⟩=some (.int .i64 hi'.e))
  (first | with_reducible exact HC.out v4 _ P9 | (refine HK.out v4 _ _ P9 ?_;with_reducible exact below_put3 (Below.refl _ _) (by omega) (by omega) _ _ _) | with_reducible exact HC.out _ _ PC | with_reducible exact XS)
  (first
   | (go_at_call_of 127 (Value.agg #[Value.bool true,Value.slice A n c,Value.int .i64 lo.e]);refine (F1.out _ PC.bel).mono ?_;rintro e' v1 ⟨X5,x5,y5,rfl,m1,b1⟩;have PQ:=(PC.below b1).num m1;clear PC;have PC:=PQ;clear PQ;clear m1 b1)
   | (go_at_call_of 127 (Value.agg #[Value.bool hi.neg,Value.slice B m d,Value.int .i64 hi.e]);refine (F2.out _ PC.bel).mono ?_;rintro e' v2 ⟨X6,x6,y6,rfl,m2,b2⟩;have PQ:=(PC.below b2).num m2;clear PC;have PC:=PQ;clear PQ;clear m2 b2)
   | (go_at_call 130;refine (G1.out _ _ _ _ _ _ _ PC.ns.2.1 PC.ns.1).mono ?_;rintro e' v4 ⟨X1,x1,y1,rfl,m4,b4⟩;have P9:=(PC.below b4).num m4;have hz9:=P9.ks.1.2;have q0:=P9.ks.2.1.at_ 0 _ rfl;have q1:=P9.ks.2.1.at_ 1 _ rfl;have q2:=P9.ks.2.1.at_ 2 _ rfl;have qf0:=P9.ks.2.1.fr 0;have qf1:=P9.ks.2.1.fr 1;have qf2:=P9.ks.2.1.fr 2))
 have P:Pu w (((v4.setCell ⟨w.heap.size+1+1,0,none⟩ (.bool x.1.neg)).setCell ⟨w.heap.size+1+1,1,none⟩ (.slice X1 x1 y1)).setCell ⟨w.heap.size+1+1,2,none⟩ (.int .i64 x.1.e)) [(78,w.heap.size+1+1+1,zd),(78,w.heap.size+1+1,#[.bool x.1.neg,.slice X1 x1 y1,.int .i64 x.1.e]),(31,w.heap.size+1,#[.bool true,.slice A' n' c',.int .i64 lo'.e,.bool hi'.neg,.slice B' m' d',.int .i64 hi'.e]),(31,w.heap.size,#[.bool true,.slice A n c,.int .i64 lo.e,.bool hi.neg,.slice B m d,.int .i64 hi.e])] _:=P9.put4 (by omega) (by omega) (by omega) (by omega) (.bool x.1.neg) (.slice X1 x1 y1) (.int .i64 x.1.e)
 clear q0 q1 q2 qf0 qf1 qf2 HC HK XS hz9 P9 m4 b4 PC
 go_upto_region 8 with fail
 generalize ((v4.setCell ⟨w.heap.size+1+1,0,none⟩ (.bool x.1.neg)).setCell ⟨w.heap.size+1+1,1,none⟩ (.slice X1 x1 y1)).setCell ⟨w.heap.size+1+1,2,none⟩ (.int .i64 x.1.e)=w7 at *
 clear v4
 have HC:Hid (∀ w' ns,Pu w w' [(78,w.heap.size+1+1+1,zd),(78,w.heap.size+1+1,#[.bool x.1.neg,.slice X1 x1 y1,.int .i64 x.1.e]),(31,w.heap.size+1,#[.bool true,.slice A' n' c',.int .i64 lo'.e,.bool hi'.neg,.slice B' m' d',.int .i64 hi'.e]),(31,w.heap.size,#[.bool true,.slice A n c,.int .i64 lo.e,.bool hi.neg,.slice B m d,.int .i64 hi.e])] ns→w'.cell? ⟨w.heap.size,0,none⟩=some (.bool true)∧w'.cell? ⟨w.heap.size,1,none⟩=some (.slice A n c)∧w'.cell? ⟨w.heap.size,2,none⟩=some (.int .i64 lo.e)∧w'.cell? ⟨w.heap.size,3,none⟩=some (.bool hi.neg)∧w'.cell? ⟨w.heap.size,4,none⟩=some (.slice B m d)∧w'.cell? ⟨w.heap.size,5,none⟩=some (.int .i64 hi.e)∧w'.cell? ⟨w.heap.size+1,0,none⟩=some (.bool true)∧w'.cell? ⟨w.heap.size+1,1,none⟩=some (.slice A' n' c')∧w'.cell? ⟨w.heap.size+1,2,none⟩=some (.int .i64 lo'.e)∧w'.cell? ⟨w.heap.size+1,3,none⟩=some (.bool hi'.neg)∧w'.cell? ⟨w.heap.size+1,4,none⟩=some (.slice B' m' d')∧w'.cell? ⟨w.heap.size+1,5,none⟩=some (.int .i64 hi'.e)):=Lib.hid (fun w' ns h=>by have ka:=h.ks.2.2.2.1;have kb:=h.ks.2.2.1;exact ⟨ka.at_ 0 _ rfl,ka.at_ 1 _ rfl,ka.at_ 2 _ rfl,ka.at_ 3 _ rfl,ka.at_ 4 _ rfl,ka.at_ 5 _ rfl,kb.at_ 0 _ rfl,kb.at_ 1 _ rfl,kb.at_ 2 _ rfl,kb.at_ 3 _ rfl,kb.at_ 4 _ rfl,kb.at_ 5 _ rfl⟩)
 have HK:Hid (∀ w' w9 ns,Pu w w' [(78,w.heap.size+1+1+1,zd),(78,w.heap.size+1+1,#[.bool x.1.neg,.slice X1 x1 y1,.int .i64 x.1.e]),(31,w.heap.size+1,#[.bool true,.slice A' n' c',.int .i64 lo'.e,.bool hi'.neg,.slice B' m' d',.int .i64 hi'.e]),(31,w.heap.size,#[.bool true,.slice A n c,.int .i64 lo.e,.bool hi.neg,.slice B m d,.int .i64 hi.e])] ns→Below (w.heap.size+2) w' w9→w9.cell? ⟨w.heap.size,0,none⟩=some (.bool true)∧w9.cell? ⟨w.heap.size,1,none⟩=some (.slice A n c)∧w9.cell? ⟨w.heap.size,2,none⟩=some (.int .i64 lo.e)∧w9.cell? ⟨w.heap.size,3,none⟩=some (.bool hi.neg)∧w9.cell? ⟨w.heap.size,4,none⟩=some (.slice B m d)∧w9.cell? ⟨w.heap.size,5,none⟩=some (.int .i64 hi.e)∧w9.cell? ⟨w.heap.size+1,0,none⟩=some (.bool true)∧w9.cell? ⟨w.heap.size+1,1,none⟩=some (.slice A' n' c')∧w9.cell? ⟨w.heap.size+1,2,none⟩=some (.int .i64 lo'.e)∧w9.cell? ⟨w.heap.size+1,3,none⟩=some (.bool hi'.neg)∧w9.cell? ⟨w.heap.size+1,4,none⟩=some (.slice B' m' d')∧w9.cell? ⟨w.heap.size+1,5,none⟩=some (.int .i64 hi'.e)):=Lib.hid (fun w' w9 ns h b=>by have ka:=h.ks.2.2.2.1.bel b (by omega);have kb:=h.ks.2.2.1.bel b (by omega);exact ⟨ka.at_ 0 _ rfl,ka.at_ 1 _ rfl,ka.at_ 2 _ rfl,ka.at_ 3 _ rfl,ka.at_ 4 _ rfl,ka.at_ 5 _ rfl,kb.at_ 0 _ rfl,kb.at_ 1 _ rfl,kb.at_ 2 _ rfl,kb.at_ 3 _ rfl,kb.at_ 4 _ rfl,kb.at_ 5 _ rfl⟩)
 have PC:=P.drew
 clear P
 have XS:=HC.out _ _ PC
 go_region_held3 (fun w'=>w'.cell? ⟨w.heap.size,0,none⟩=some (.bool true)∧w'.cell? ⟨w.heap.size,1,none⟩=some (.slice A n c)∧w'.cell? ⟨w.heap.size,2,none⟩=some (.int .i64 lo.e)∧w'.cell? ⟨w.heap.size,3,none⟩=some (.bool hi.neg)∧w'.cell? ⟨w.heap.size,4,none⟩=some (.slice B m d)∧w'.cell? ⟨w.heap.size,5,none⟩=some (.int .i64 hi.e)∧w'.cell? ⟨w.heap.size+1,0,none⟩=some (.bool true)∧w'.cell? ⟨w.heap.size+1,1,none⟩=some (.slice A' n' c')∧w'.cell? ⟨w.heap.size+1,2,none⟩=some (.int .i64 lo'.e)∧w'.cell? ⟨w.heap.size+1,3,none⟩=some (.bool hi'.neg)∧w'.cell? ⟨w.heap.size+1,4,none⟩=some (.slice B' m' d')∧w'.cell? ⟨w.heap.size+1,5,none⟩=some (.int .i64 hi'.e))
  (first | with_reducible exact HC.out v4 _ P9 | (refine HK.out v4 _ _ P9 ?_;with_reducible exact below_put3 (Below.refl _ _) (by omega) (by omega) _ _ _) | with_reducible exact HC.out _ _ PC | with_reducible exact XS)
  (first
   | (go_at_call_of 127 (Value.agg #[Value.bool true,Value.slice A n c,Value.int .i64 lo.e]);refine (F3.out _ PC.bel).mono ?_;rintro e' v1 ⟨X5,x5,y5,rfl,m1,b1⟩;have PQ:=(PC.below b1).num m1;clear PC;have PC:=PQ;clear PQ;clear m1 b1)
   | (go_at_call_of 127 (Value.agg #[Value.bool hi.neg,Value.slice B m d,Value.int .i64 hi.e]);refine (F4.out _ PC.bel).mono ?_;rintro e' v2 ⟨X6,x6,y6,rfl,m2,b2⟩;have PQ:=(PC.below b2).num m2;clear PC;have PC:=PQ;clear PQ;clear m2 b2)
   | (go_at_call 130;refine (G2.out _ _ _ _ _ _ _ PC.ns.2.1 PC.ns.1).mono ?_;rintro e' v4 ⟨X2,x2,y2,rfl,m4,b4⟩;have P9:=(PC.below b4).num m4;have hz9:=P9.ks.1.2;have q0:=P9.ks.1.at_ 0 _ rfl;have q1:=P9.ks.1.at_ 1 _ rfl;have q2:=P9.ks.1.at_ 2 _ rfl;have qf0:=P9.ks.1.fr 0;have qf1:=P9.ks.1.fr 1;have qf2:=P9.ks.1.fr 2))
 have P:Pu w (((v4.setCell ⟨w.heap.size+1+1+1,0,none⟩ (.bool x.2.neg)).setCell ⟨w.heap.size+1+1+1,1,none⟩ (.slice X2 x2 y2)).setCell ⟨w.heap.size+1+1+1,2,none⟩ (.int .i64 x.2.e)) [(78,w.heap.size+1+1+1,#[.bool x.2.neg,.slice X2 x2 y2,.int .i64 x.2.e]),(78,w.heap.size+1+1,#[.bool x.1.neg,.slice X1 x1 y1,.int .i64 x.1.e]),(31,w.heap.size+1,#[.bool true,.slice A' n' c',.int .i64 lo'.e,.bool hi'.neg,.slice B' m' d',.int .i64 hi'.e]),(31,w.heap.size,#[.bool true,.slice A n c,.int .i64 lo.e,.bool hi.neg,.slice B m d,.int .i64 hi.e])] _:=P9.put5 (by omega) (by omega) (by omega) (by omega) (.bool x.2.neg) (.slice X2 x2 y2) (.int .i64 x.2.e)
 clear q0 q1 q2 qf0 qf1 qf2 HC HK XS hz9 P9 m4 b4 PC
 go_upto_region 9 with fail
 generalize ((v4.setCell ⟨w.heap.size+1+1+1,0,none⟩ (.bool x.2.neg)).setCell ⟨w.heap.size+1+1+1,1,none⟩ (.slice X2 x2 y2)).setCell ⟨w.heap.size+1+1+1,2,none⟩ (.int .i64 x.2.e)=w8 at *
 clear v4
 have hz9:=P.ks.1.2
 have q0:=P.ks.2.1.at_ 0 _ rfl
 have q3:=P.ks.1.at_ 0 _ rfl
 have qf0:=P.ks.2.1.fr 0
 have qf3:=P.ks.1.fr 0
 have q1:=P.ks.2.1.at_ 1 _ rfl
 have q4:=P.ks.1.at_ 1 _ rfl
 have qf1:=P.ks.2.1.fr 1
 have qf4:=P.ks.1.fr 1
 have q2:=P.ks.2.1.at_ 2 _ rfl
 have q5:=P.ks.1.at_ 2 _ rfl
 have qf2:=P.ks.2.1.fr 2
 have qf5:=P.ks.1.fr 2
 go_region_with (fail)
 all_goals (
  go_wp2_with fail
  rw [HT.out]
  obtain ⟨n1',n2',hb9⟩:=P.give3 P.ks.2.1 P.ks.1 (by omega) (by omega) (by omega) P.ns.2.2.2.1 P.ns.1 (.bool x.1.neg) (.slice X1 x1 y1) (.int .i64 x.1.e) (.bool x.2.neg) (.slice X2 x2 y2) (.int .i64 x.2.e)
  exact bodyPost_ret (v:=.tuple #[.agg #[.bool x.1.neg,.slice X1 x1 y1,.int .i64 x.1.e],.agg #[.bool x.2.neg,.slice X2 x2 y2,.int .i64 x.2.e]]) (by simp [results,Tryz.results71,go_sem,q0,q1,q2,q3,q4,q5]) rfl ⟨X1,x1,y1,X2,x2,y2,rfl,n1'.below (Below.refl _ _).drew,n2'.below (Below.refl _ _).drew,hb9.drew⟩)
theorem products_any {lo hi lo' hi':DR} {A B A' B':Option Addr} {n c m d n' c' m' d':Nat} (w:World) (ha:DN w A n c lo) (hb:DN w B m d hi) (ha':DN w A' n' c' lo') (hb':DN w B' m' d' hi'):Calls Tryz.prog 71 #[spv lo.neg A n c lo.e hi.neg B m d hi.e,spv lo'.neg A' n' c' lo'.e hi'.neg B' m' d' hi'.e] w (PrP w (prodsN lo hi lo' hi')):=by
 unfold prodsN
 cases hs:lo'.neg
 · simp only [Bool.not_false,Bool.true_or,if_true]
   exact products_pos w ha hb ha' hb' hs
 · cases h1:aboveI hi'
   · simp only [Bool.not_false,Bool.or_true,if_true]
     exact products_neg w ha hb ha' hb' hs h1
   · cases hs1:lo.neg
     · simp only [Bool.not_true,Bool.or_self,Bool.false_eq_true,if_false,Bool.not_false,Bool.true_or,if_true]
       exact products_swap1 w ha hb ha' hb' hs h1 hs1
     · cases h3:aboveI hi
       · simp only [Bool.not_true,Bool.or_self,Bool.false_eq_true,if_false,Bool.not_false,Bool.or_true,if_true]
         exact products_swap2 w ha hb ha' hb' hs h1 hs1 h3
       · simp only [Bool.not_true,Bool.or_self,Bool.false_eq_true,if_false]
         exact products_in w ha hb ha' hb' hs h1 hs1 h3
end Go.Proofs.YtmbmohibpkepdaaGreatDoor
namespace Go.Proofs.YtmbmohibpkepdaaGreatDoor
open Go.RowKit
variable {TW:TypeId}
structure ProdB (r:DR):Prop where
 bits:nb r.m≤32768
 e1:-524288≤r.e
 e2:r.e≤524288
theorem prod_b {r s:DR} (h1:PlainR r) (h2:PlainR s):ProdB (prodN r s):=by
 have b1:=nb_mul r.m s.m
 have:=h1.bits
 have:=h2.bits
 have:=h1.e1
 have:=h1.e2
 have:=h2.e1
 have:=h2.e2
 exact ⟨by show nb (r.m*s.m)≤_;omega,by show _≤r.e+s.e;omega,by show r.e+s.e≤_;omega⟩
theorem gr_b {r s:DR} (h1:ProdB r) (h2:ProdB s):ProdB (grN r s):=by unfold grN;split <;> assumption
theorem prods1_b {lo hi lo' hi':DR} (h1:PlainR lo) (h2:PlainR hi) (h3:PlainR lo') (h4:PlainR hi'):ProdB (prods1 lo hi lo' hi').1∧ProdB (prods1 lo hi lo' hi').2:=by
 unfold prods1
 split
 · exact ⟨prod_b h2 (pick_pl h4 h3),prod_b h1 (pick_pl h3 h4)⟩
 · exact ⟨prod_b h1 (pick_pl h4 h3),prod_b h2 (pick_pl h3 h4)⟩
theorem prods_b {lo hi lo' hi':DR} (h1:PlainR lo) (h2:PlainR hi) (h3:PlainR lo') (h4:PlainR hi'):ProdB (prodsN lo hi lo' hi').1∧ProdB (prodsN lo hi lo' hi').2:=by
 unfold prodsN
 split
 · exact prods1_b h1 h2 h3 h4
 · split
   · exact prods1_b h3 h4 h1 h2
   · exact ⟨gr_b (prod_b h1 h4) (prod_b h2 h3),gr_b (prod_b h1 h3) (prod_b h2 h4)⟩
theorem ProdB.wide {r:DR} (h:ProdB r):WideR r:=⟨by have:=h.bits;omega,by have:=h.e1;omega,by have:=h.e2;omega⟩
def mulC (p:Int) (bad:Bool) (lo hi lo' hi':DR):SRes:=if bad2 p bad lo hi lo' hi' then SRes.no else outwS p.toNat (prodsN lo hi lo' hi').1 (prodsN lo hi lo' hi').2
set_option maxRecDepth 8000 in
set_option maxHeartbeats 4000000 in
theorem smul_any {lo hi lo' hi':DR} {A B A' B':Option Addr} {n c m d n' c' m' d':Nat} (g:Nat) (p:Int) (bad:Bool) (w:World) (hW:Wk TW w g p bad) (ha:DIn w A n c lo) (hb:DIn w B m d hi) (ha':DIn w A' n' c' lo') (hb':DIn w B' m' d' hi') (hT:Tab w) :
 Calls Tryz.prog 29 #[.pointer (some ⟨g,0,none⟩),spv lo.neg A n c lo.e hi.neg B m d hi.e,spv lo'.neg A' n' c' lo'.e hi'.neg B' m' d' hi'.e] w (SPost TW w g p (mulC p bad lo hi lo' hi')):=by
 have S:=st2 hW (.bool lo.neg) (.slice A n c) (.int .i64 lo.e) (.bool hi.neg) (.slice B m d) (.int .i64 hi.e) (.bool lo'.neg) (.slice A' n' c') (.int .i64 lo'.e) (.bool hi'.neg) (.slice B' m' d') (.int .i64 hi'.e)
 have TK:=take2 g p bad _ S.W (ha.wk hW S.O) (hb.wk hW S.O) (ha'.wk hW S.O) (hb'.wk hW S.O)
 rw [show (((w.alloc (co6 (.bool lo.neg) (.slice A n c) (.int .i64 lo.e) (.bool hi.neg) (.slice B m d) (.int .i64 hi.e))).alloc (co6 (.bool lo'.neg) (.slice A' n' c') (.int .i64 lo'.e) (.bool hi'.neg) (.slice B' m' d') (.int .i64 hi'.e))).alloc z6).heap.size=w.heap.size+1+1+1 by simp] at TK
 have TKH:=Lib.hid TK
 clear TK
 have k0:=S.ks.2.2.1.1
 have k0_0:=k0.at_ 0 _ rfl
 have k0_1:=k0.at_ 1 _ rfl
 have k0_2:=k0.at_ 2 _ rfl
 have k0_3:=k0.at_ 3 _ rfl
 have k0_4:=k0.at_ 4 _ rfl
 have k0_5:=k0.at_ 5 _ rfl
 have k0l:=k0.2
 clear k0
 have k1:=S.ks.2.1.1
 have k1_0:=k1.at_ 0 _ rfl
 have k1_1:=k1.at_ 1 _ rfl
 have k1_2:=k1.at_ 2 _ rfl
 have k1_3:=k1.at_ 3 _ rfl
 have k1_4:=k1.at_ 4 _ rfl
 have k1_5:=k1.at_ 5 _ rfl
 have k1l:=k1.2
 clear k1
 go_enter Tryz.func29,Tryz.ntmps29
 go_wp2_with fail
 refine TKH.out.mono ?_
 clear TKH
 clear k0_0 k0_1 k0_2 k0_3 k0_4 k0_5 k0l k1_0 k1_1 k1_2 k1_3 k1_4 k1_5 k1l
 generalize ((w.alloc (co6 (.bool lo.neg) (.slice A n c) (.int .i64 lo.e) (.bool hi.neg) (.slice B m d) (.int .i64 hi.e))).alloc (co6 (.bool lo'.neg) (.slice A' n' c') (.int .i64 lo'.e) (.bool hi'.neg) (.slice B' m' d') (.int .i64 hi'.e))).alloc z6=w1 at *
 rintro e' w2 ⟨rfl,hW2,o2⟩
 replace S:=S.only o2 hW2
 clear o2 hW2
 obtain ⟨bo,hbo⟩:∃ b:Bool,Hid (bad2 p bad lo hi lo' hi'=b):=⟨_,Lib.hid rfl⟩
 rw [hbo.out] at S
 rw [hbo.out]
 cases bo
 rotate_left
 · have HT:Hid (mulC p bad lo hi lo' hi'=SRes.no):=Lib.hid (by unfold mulC;rw [hbo.out];rfl)
   have kR:=S.ks.1.1
   have s0:=kR.at_ 0 _ rfl
   have s1:=kR.at_ 1 _ rfl
   have s2:=kR.at_ 2 _ rfl
   have s3:=kR.at_ 3 _ rfl
   have s4:=kR.at_ 4 _ rfl
   have s5:=kR.at_ 5 _ rfl
   have rf0:=kR.fr 0
   have rf1:=kR.fr 1
   have rf2:=kR.fr 2
   have rf3:=kR.fr 3
   have rf4:=kR.fr 4
   have rf5:=kR.fr 5
   go_wp2_with fail
   rw [HT.out]
   obtain ⟨q1,q2,q3,q4⟩:=S.give (lo:=DR.zero) (hi:=DR.zero) (num_nil _) (num_nil _) kR (by omega)
   exact bodyPost_ret (v:=spv false none 0 0 0 false none 0 0 0) (by simp [results,Tryz.results29,go_sem,s0,s1,s2,s3,s4,s5]) rfl ⟨none,0,0,none,0,0,rfl,q1,q2,q3,q4⟩
 · skip
   obtain ⟨hbad,hp,hR,hR'⟩:=bad2_false hbo.out
   obtain ⟨P,hP⟩:∃ P:Nat,p=(P:Int):=⟨p.toNat,by omega⟩
   have hPt:p.toNat=P:=by omega
   have HT:Hid (mulC p bad lo hi lo' hi'=outwS P (prodsN lo hi lo' hi').1 (prodsN lo hi lo' hi').2):=Lib.hid (by unfold mulC;rw [hbo.out,hPt];rfl)
   have HPR:Hid (∀ w',Only w w' g→Calls Tryz.prog 71 #[spv lo.neg A n c lo.e hi.neg B m d hi.e,spv lo'.neg A' n' c' lo'.e hi'.neg B' m' d' hi'.e] w' (PrP w' (prodsN lo hi lo' hi'))):=Lib.hid (fun w' o=>products_any w' ⟨(ha.wk hW o).num hR.l,ha.plain hR.l⟩ ⟨(hb.wk hW o).num hR.h,hb.plain hR.h⟩ ⟨(ha'.wk hW o).num hR'.l,ha'.plain hR'.l⟩ ⟨(hb'.wk hW o).num hR'.h,hb'.plain hR'.h⟩)
   have WB:=prods_b (ha.plain hR.l) (hb.plain hR.h) (ha'.plain hR'.l) (hb'.plain hR'.h)
   generalize prodsN lo hi lo' hi'=x at *
   have OW:Hid (∀ w' A1 n1 c1 A2 n2 c2,Wk TW w' g p false→Only w w' g→Num w' (.slice A1 n1 c1) x.1.m→Num w' (.slice A2 n2 c2) x.2.m→Calls Tryz.prog 70 #[.pointer (some ⟨g,0,none⟩),dyv x.1.neg A1 n1 c1 x.1.e,dyv x.2.neg A2 n2 c2 x.2.e] w' (SPost TW w' g p (outwS P x.1 x.2))):=Lib.hid (fun w' A1 n1 c1 A2 n2 c2 k o h1 h2=>by
    rw [hP] at k ⊢
    exact outward_any g P (by omega) w' k h1 h2 WB.1.wide WB.2.wide (hT.wk hW o))
   clear WB
   generalize outwS P x.1 x.2=z at *
   clear hbo hbad hP hPt hR hR'
   have k2:=S.ks.2.2.1.1
   have k2_0:=k2.at_ 0 _ rfl
   have k2_1:=k2.at_ 1 _ rfl
   have k2_2:=k2.at_ 2 _ rfl
   have k2_3:=k2.at_ 3 _ rfl
   have k2_4:=k2.at_ 4 _ rfl
   have k2_5:=k2.at_ 5 _ rfl
   have k2l:=k2.2
   clear k2
   have k3:=S.ks.2.1.1
   have k3_0:=k3.at_ 0 _ rfl
   have k3_1:=k3.at_ 1 _ rfl
   have k3_2:=k3.at_ 2 _ rfl
   have k3_3:=k3.at_ 3 _ rfl
   have k3_4:=k3.at_ 4 _ rfl
   have k3_5:=k3.at_ 5 _ rfl
   have k3l:=k3.2
   clear k3
   go_wp2_with fail
   refine (HPR.out _ S.O).mono ?_
   rintro e' v1 ⟨A1,n1,c1,A2,n2,c2,rfl,m1,m2,b1⟩
   replace S:=((S.below b1).num m2).num m1
   clear m1 m2 b1 HPR
   clear k2_0 k2_1 k2_2 k2_3 k2_4 k2_5 k2l k3_0 k3_1 k3_2 k3_3 k3_4 k3_5 k3l
   go_wp2_with fail
   refine (OW.out _ _ _ _ _ _ _ S.W S.O S.ns.1 S.ns.2.1).mono ?_
   rintro e' w5 ⟨A9,p9,c9,B9,q9,d9,rfl,m1,m2,hW9,o9⟩
   replace S:=S.only o9 hW9
   clear o9 hW9
   clear OW
   have kR:=S.ks.1.1
   have s0:=kR.at_ 0 _ rfl
   have s1:=kR.at_ 1 _ rfl
   have s2:=kR.at_ 2 _ rfl
   have s3:=kR.at_ 3 _ rfl
   have s4:=kR.at_ 4 _ rfl
   have s5:=kR.at_ 5 _ rfl
   have rf0:=kR.fr 0
   have rf1:=kR.fr 1
   have rf2:=kR.fr 2
   have rf3:=kR.fr 3
   have rf4:=kR.fr 4
   have rf5:=kR.fr 5
   go_wp2_with fail
   rw [HT.out]
   obtain ⟨q1,q2,q3,q4⟩:=S.give (lo:=z.lo) (hi:=z.hi) m1 m2 kR (by omega)
   exact bodyPost_ret (v:=spv z.lo.neg A9 p9 c9 z.lo.e z.hi.neg B9 q9 d9 z.hi.e) (by simp [results,Tryz.results29,go_sem,s0,s1,s2,s3,s4,s5]) rfl ⟨A9,p9,c9,B9,q9,d9,rfl,q1,q2,q3,q4⟩
end Go.Proofs.YtmbmohibpkepdaaGreatDoor
