/-
 expo: shifted, termSum, top, size, depth.
 expo: top, depth, number, from.
 expo: squares' series.
-/
import Derived.Test.YtmbmohibpkepdaaGreatDoorPlEGDy1
import Derived.Test.YtmbmohibpkepdaaGreatDoorPlEGDy5
import Derived.Test.YtmbmohibpkepdaaGreatDoorPlEGDy8
import Derived.Test.YtmbmohibpkepdaaGreatDoorPlEGDy11
import Derived.Test.YtmbmohibpkepdaaGreatDoorPlEGEx1
import Derived.Test.YtmbmohibpkepdaaGreatDoorPlEGEx2
import Derived.Test.YtmbmohibpkepdaaGreatDoorPlEGSp1
import Derived.Test.YtmbmohibpkepdaaGreatDoorPlEGSp3
namespace Go.Proofs.YtmbmohibpkepdaaGreatDoor
open Go.RowKit
theorem slw5 (w:World) (r g:Nat) (hr:r < B64) (hg:g=w.heap.size):Sl (w.alloc (cw r)) (some ⟨g,0,none⟩) 1 1 (fun _=>r):=by
 subst hg
 exact one_sl _ w r hr
theorem shifted_any {v:Value} {V:Nat} (n:Int) (w:World) (h:Num w v V) (hV:nb V≤1000000) (h1:-1000000≤n) (h2:n≤1000000) :
 Calls Tryz.prog 155 #[v,.int .i64 n] w (NP w (shN V n)):=by
 by_cases hn:n < 0
 · have hd:decide (n < 0)=true:=decide_eq_true hn
   have SR:=Lib.hid (shrN (s:=(-n).toNat) w h (by omega) (by omega))
   rw [show ((-n).toNat:Int)=-n by omega] at SR
   have hs:Hid (shN V n=V/2^(-n).toNat):=Lib.hid (by unfold shN;rw [if_pos hn])
   rw [hs.out]
   go_enter Tryz.func155,Tryz.ntmps155
   go_wp2_with fail
   refine SR.out.mono ?_
   rintro e' w2 ⟨A,p,c,rfl,n2,b⟩
   go_wp2_with fail
   go_ret
   exact ⟨A,p,c,rfl,n2,b⟩
 · have hd:decide (n < 0)=false:=decide_eq_false hn
   have SR:=Lib.hid (shlN (s:=n.toNat) w h (by omega) (by omega))
   rw [show (n.toNat:Int)=n by omega] at SR
   have hs:Hid (shN V n=V*2^n.toNat):=Lib.hid (by unfold shN;rw [if_neg hn])
   rw [hs.out]
   go_enter Tryz.func155,Tryz.ntmps155
   go_wp2_with fail
   refine SR.out.mono ?_
   rintro e' w2 ⟨A,p,c,rfl,n2,b⟩
   go_wp2_with fail
   go_ret
   exact ⟨A,p,c,rfl,n2,b⟩
theorem ft_stays {D:Nat→Nat} {Z b k:Nat} (h:ftN D Z b k=0) (j:Nat):ftN D Z b (k+j)=0∧fsN D Z b (k+j)=fsN D Z b k:=by
 induction j with
 | zero=>exact ⟨h,rfl⟩
 | succ j ih =>
  have h1:ftN D Z b (k+(j+1))=0:=by
   show ftN D Z b (k+j)*Z/2^b/D (k+j+1)=0
   rw [ih.1,Nat.zero_mul,Nat.zero_div,Nat.zero_div]
  refine ⟨h1,?_⟩
  show fsN D Z b (k+j)+ftN D Z b (k+(j+1))=fsN D Z b k
  rw [h1,ih.2,Nat.add_zero]
theorem ft_small {D:Nat→Nat} {Z b:Nat} (hZ:2*Z≤2^b) (k:Nat):ftN D Z b k≤2^b:=by
 have h1:=ft_end (D:=D) hZ k
 have h2:ftN D Z b k*1≤ftN D Z b k*2^k:=Nat.mul_le_mul_left _ (Nat.two_pow_pos k)
 omega
theorem fs_small {D:Nat→Nat} {Z b:Nat} (hZ:2*Z≤2^b) (k:Nat):fsN D Z b k≤(k+1)*2^b:=by
 induction k with
 | zero=>have:=ft_small (D:=D) hZ 0;show ftN D Z b 0≤_;omega
 | succ k ih =>
  have h1:=ft_small (D:=D) hZ (k+1)
  show fsN D Z b k+ftN D Z b (k+1)≤(k+1+1)*2^b
  rw [Nat.add_mul (k+1) 1]
  omega
theorem nb_pow5 (k:Nat):nb (2^k)=k+1:=nb_of (Nat.pow_lt_pow_right (by omega) (Nat.lt_succ_self k)) (Nat.le_refl _)
theorem nb_ft {D:Nat→Nat} {Z b:Nat} (hZ:2*Z≤2^b) (k:Nat):nb (ftN D Z b k)≤b+1:=by
 have:=nb_mono (ft_small (D:=D) hZ k)
 rw [nb_pow5] at this
 exact this
theorem nb_fs {D:Nat→Nat} {Z b k:Nat} (hZ:2*Z≤2^b) (hk:k < 2^20):nb (fsN D Z b k)≤b+21:=by
 have h1:fsN D Z b k≤2^(20+b):=by
  rw [Nat.pow_add]
  exact Nat.le_trans (fs_small (D:=D) hZ k) (Nat.mul_le_mul_right _ hk)
 have:=nb_mono h1
 rw [nb_pow5] at this
 omega
theorem nb_prod (a b:Nat):nb (a*b)≤nb a+nb b:=by
 refine (nb_le_iff _ _).2 ?_
 rw [Nat.pow_add]
 have h1:=nb_lt a
 have h2:=nb_lt b
 exact Nat.mul_lt_mul'' h1 h2
theorem num_len0 {w:World} {A:Option Addr} {n c V:Nat} (h:Num w (.slice A n c) V):n=0 ↔ V=0:=by
 obtain ⟨_,_,_,f,hh,_,hc,rfl⟩:=h
 cases hh
 constructor
 · intro h;subst h;exact vs_zero _ _
 · intro h;exact cn_zero hc h
theorem pow1_any (n:Nat) (w:World):Calls Tryz.prog 156 #[.int .u64 (n:Int)] w fun r w'=>r=.returned (.int .u64 (n:Int))∧w=w':=by
 go_enter Tryz.func156,Tryz.ntmps156
 go_wp2_with fail
 go_ret
 exact ⟨rfl,rfl⟩
set_option maxRecDepth 8000 in
set_option maxHeartbeats 4000000 in
theorem termSum_any {v:Value} {Z B:Nat} (w:World) (h:Num w v Z) (hZ:2*Z≤2^B) (hB:B≤200000) :
 Calls Tryz.prog 154 #[v,.int .i64 (B:Int),.func (.func 156) #[] #[]] w (NP w (fsN (fun n=>n) Z B (B+1))):=by
 have hZ2:nb Z≤B+1:=by
  have h1:Z≤2^B:=by omega
  have:=nb_mono h1
  rw [nb_pow5] at this
  exact this
 have bA:=alloc_bel w (cw 1)
 have nA:=num_one (slw5 w 1 _ (by unfold B64;omega) rfl) (by omega)
 have SL:=Lib.hid (shlN (s:=B) _ nA (by rw [nb1];omega) (by omega))
 rw [Nat.one_mul] at SL
 have HF:=Lib.hid (fun k=>nb_ft (D:=fun n=>n) hZ k)
 have HS:=Lib.hid (fun k (hk:k < 2^20)=>nb_fs (D:=fun n=>n) (k:=k) hZ hk)
 have HE:=Lib.hid (fun k (hk:B < k)=>ft_nought (D:=fun n=>n) (b:=B) (n:=k) hZ hk)
 have HST:=Lib.hid (fun k j (hk:ftN (fun n=>n) Z B k=0)=>ft_stays hk j)
 clear nA
 go_enter Tryz.func154,Tryz.ntmps154
 go_wp2_with fail
 refine SL.out.mono ?_
 rintro e' w1 ⟨A1,p1,c1,rfl,n1,b⟩
 have b1:=below_step bA b
 clear SL bA b
 go_wp2_with fail
 go_loopw [7,8,9] (fun s7 s8 s9 wr=>∃ (k:Nat) (A:Option Addr) (p c:Nat) (A':Option Addr) (p' c':Nat),k≤B+1∧s7=.slice A p c∧s8=.slice A' p' c'∧s9=.int .u64 ((k+1:Nat):Int)∧Num wr (.slice A p c) (ftN (fun n=>n) Z B k)∧Num wr (.slice A' p' c') (fsN (fun n=>n) Z B k)∧Below w.heap.size w wr) (fun _ _ s9 _=>B+3-(intOf s9).toNat)
 case atStart=>exact ⟨0,A1,p1,c1,A1,p1,c1,by omega,rfl,rfl,rfl,n1,n1,b1⟩
 case round =>
  obtain ⟨k,A,p,c,A',p',c',hk,rfl,rfl,rfl,nT,nS,bw⟩:=hrel
  by_cases h0:ftN (fun n=>n) Z B k=0
  · obtain rfl:p=0:=(num_len0 nT).2 h0
    have hst:=(HST.out k (B+1-k) h0).2
    rw [show k+(B+1-k)=B+1 by omega] at hst
    go_wp2_with fail
    go_ret
    exact ⟨A',p',c',rfl,by rw [hst];exact nS,bw⟩
  · have hp:p≠0:=fun h=>h0 ((num_len0 nT).1 h)
    have hd:decide ((0:Int) < (p:Int))=true:=decide_eq_true (by omega)
    have hk2:k≤B:=by
     rcases Nat.lt_or_ge B k with h1 | h1
     · exact absurd (HE.out k h1) h0
     · exact h1
    have hf:=HF.out k
    have hf2:=HF.out (k+1)
    have hs:=HS.out k (by omega)
    have MU:=Lib.hid (mulN wr nT (h.below bw) (by omega) (by omega))
    have hpr:=nb_prod (ftN (fun n=>n) Z B k) Z
    have hnx:Hid (ftN (fun n=>n) Z B (k+1)=ftN (fun n=>n) Z B k*Z/2^B/(k+1)):=Lib.hid rfl
    have hns:Hid (fsN (fun n=>n) Z B (k+1)=fsN (fun n=>n) Z B k+ftN (fun n=>n) Z B (k+1)):=Lib.hid rfl
    go_wp2_with fail
    refine MU.out.mono ?_
    rintro e' w2 ⟨A2,p2,c2,rfl,n2,b⟩
    have b2:=below_step bw b
    replace nS:=nS.below b
    clear MU b nT
    have SR:=Lib.hid (shrN (s:=B) w2 n2 (by omega) (by omega))
    go_wp2_with fail
    refine SR.out.mono ?_
    rintro e' w3 ⟨A3,p3,c3,rfl,n3,b⟩
    have b3:=below_step b2 b
    replace nS:=nS.below b
    clear SR b n2 b2
    have PW:=Lib.hid (pow1_any (k+1) w3)
    rw [show ((k+1:Nat):Int)=(k:Int)+1 from rfl] at PW
    go_wp2_with fail
    refine PW.out.mono ?_
    rintro e' w4 ⟨rfl,rfl⟩
    have bb:=alloc_bel w3 (cw (k+1))
    have n4:=num_one (slw5 w3 (k+1) _ (by unfold B64;omega) rfl) (by omega)
    replace n3:=n3.below bb
    replace nS:=nS.below bb
    have b4:=below_step b3 bb
    have hk1:nb (k+1)≤64:=(nb_le_iff _ 64).2 (by
     have:(2:Nat)^64=18446744073709551616:=by decide
     omega)
    have hd3:nb (ftN (fun n=>n) Z B k*Z/2^B)≤1000000:=Nat.le_trans (nb_mono (Nat.div_le_self _ _)) (by omega)
    have DV:=Lib.hid (divN _ n3 n4 (by omega) (by omega) (by omega))
    clear bb b3 n3 n4 PW
    go_wp2_with fail
    refine DV.out.mono ?_
    rintro e' w6 ⟨A6,p6,c6,A7,p7,c7,rfl,n6,_,b⟩
    have b6:=below_step b4 b
    replace nS:=nS.below b
    clear DV b b4
    rw [← hnx.out] at n6
    have AD:=Lib.hid (addN w6 nS n6 (by omega) (by omega))
    rw [← hns.out] at AD
    go_wp2_with fail
    refine AD.out.mono ?_
    rintro e' w7 ⟨A8,p8,c8,rfl,n8,b⟩
    have b7:=below_step b6 b
    replace n6:=n6.below b
    go_wp2_with fail
    go_roundw
    case rel=>exact ⟨k+1,A6,p6,c6,A8,p8,c8,by omega,rfl,rfl,by go_num,n6,n8,b7⟩
    case measure=>simp [intOf];omega
end Go.Proofs.YtmbmohibpkepdaaGreatDoor
namespace Go.Proofs.YtmbmohibpkepdaaGreatDoor
open Go.RowKit
theorem etop_any (neg:Bool) (A:Option Addr) (n c:Nat) (x:Nat→Nat) (e:Int) (w:World) (ha:Sl w A n c x) (hn:n≤400000) (he1:-1000000000≤e) (he2:e≤1000000000) :
 Calls Tryz.prog 108 #[dyv neg A n c e] w (IntPost w (e+(nb (vs B64 x n):Int))):=by
 have b1:Below w.heap.size w (w.alloc (.cells #[.bool neg,.slice A n c,.int .i64 e] 24)):=(Below.refl _ w).alloc (Nat.le_refl _) _
 have hnb:=nb_words (vs_lt ha.small)
 have s1:=ha.below b1
 obtain ⟨c0,c1,c2⟩:=(Blk3.made w (.bool neg) (.slice A n c) (.int .i64 e)).cell
 go_enter Tryz.func108,Tryz.ntmps108
 go_wp2_with fail
 generalize w.alloc (.cells #[.bool neg,.slice A n c,.int .i64 e] 24)=w1 at *
 go_region_held3 (fun w'=>w'.cell? ⟨w.heap.size,1,none⟩=some (.slice A n c)∧w'.cell? ⟨w.heap.size,2,none⟩=some (.int .i64 e)) (go_keep)
  (first | (go_at_call 117;refine (bits_same A n c x _ (by first | exact s1 | exact s1.drew) (by omega)).mono ?_;rintro e' w2 ⟨B,rfl,hB,rfl⟩))
 obtain rfl:=nb_eq hB
 rw [wrap_id (by omega) (by omega)]
 go_wp2_with fail
 go_ret
 exact ⟨rfl,b1.drew⟩
set_option maxHeartbeats 1000000 in
theorem depth_any (T:TypeId) (g:Nat) (P:Int) (bad:Bool) (w:World) (hW:Wk T w g P bad) (hP:P≤8192) :
 Calls Tryz.prog 153 #[.pointer (some ⟨g,0,none⟩)] w (fun r w'=>∃ k:Nat,r=.returned (.int .i64 (k:Int))∧1≤k∧k≤65∧w=w'):=by
 obtain ⟨c0,c1⟩:=hW.cell
 have hg:=hW.2
 go_enter Tryz.func153,Tryz.ntmps153
 go_wp2_with fail
 go_loop [3] (fun i=>∃ k:Nat,1≤k∧k≤65∧i=.int .i64 (k:Int)) (fun i=>100-(intOf i).toNat)
 case atStart=>exact ⟨1,by omega,by omega,rfl⟩
 case round =>
  obtain ⟨k,hk1,hk2,rfl⟩:=hrel
  have hmul:(2:Int)*(k:Int)*(k:Int)=((2*k*k:Nat):Int):=by simp
  have hsq:2*k*k≤2*65*65:=Nat.mul_le_mul (Nat.mul_le_mul_left 2 hk2) hk2
  obtain ⟨q,hq⟩:∃ q,q=2*k*k:=⟨_,rfl⟩
  rw [← hq] at hmul hsq
  by_cases hlt:(q:Int) < P
  · have hk64:k≤64:=by
     rcases Nat.lt_or_ge 64 k with h | h
     · have:2*65*65≤2*k*k:=Nat.mul_le_mul (Nat.mul_le_mul_left 2 h) h
       omega
     · exact h
    have hd:decide ((q:Int) < P)=true:=decide_eq_true hlt
    clear hq
    go_wp2_with fail
    go_round
    case rel=>exact ⟨k+1,by omega,by omega,by go_num⟩
    case measure=>simp [intOf];omega
  · have hd:decide ((q:Int) < P)=false:=decide_eq_false hlt
    clear hq
    go_wp2_with fail
    go_ret
    exact ⟨k,rfl,hk1,hk2,rfl⟩
end Go.Proofs.YtmbmohibpkepdaaGreatDoor
namespace Go.Proofs.YtmbmohibpkepdaaGreatDoor
open Go.RowKit
theorem dsq_small {odd n:Nat} (ho:odd≤1) (hn:n≤200001):dSq odd n≤200000000000:=by
 unfold dSq
 have:=Nat.mul_le_mul (show 2*n+odd≤400003 by omega) (show 2*n+odd-1≤400003 by omega)
 omega
theorem sq1_any (odd n a:Nat) (w:World) (hk:KC 51 w a #[.int .u64 ((odd:Nat):Int)]) (ho:odd≤1) (hn1:1≤n) (hn:n≤200001) :
 Calls Tryz.prog 164 #[.int .u64 (n:Int),.pointer (some ⟨a,0,none⟩)] w fun r w'=>r=.returned (.int .u64 (dSq odd n:Int))∧w=w':=by
 have k0:=hk.at_ 0 _ rfl
 have kl:=hk.2
 have hD:Hid (dSq odd n=(2*n+odd)*(2*n+odd-1)):=Lib.hid rfl
 have hDs:=dsq_small ho hn
 obtain ⟨q,hq⟩:∃ q,q=2*n+odd:=⟨_,rfl⟩
 have w1:IntKind.u64.wrap (2*(n:Int))=2*(n:Int):=by rw [IntKind.wrap_u64];omega
 have w2:IntKind.u64.wrap (2*(n:Int)+(odd:Int))=(q:Int):=by rw [IntKind.wrap_u64];omega
 obtain ⟨q',hq'⟩:∃ q',q'=q-1:=⟨_,rfl⟩
 have w3:IntKind.u64.wrap ((q:Int)-1)=(q':Int):=by rw [IntKind.wrap_u64];omega
 obtain ⟨D,hD2⟩:∃ D,D=dSq odd n:=⟨_,rfl⟩
 have w4:IntKind.u64.wrap ((q:Int)*(q':Int))=(D:Int):=by
  have e:(q:Int)*(q':Int)=(D:Int):=by
   rw [hD2,hD.out,← hq,← hq']
   exact (Int.natCast_mul q q').symm
  rw [e,IntKind.wrap_u64]
  omega
 rw [← hD2]
 clear hD hDs hq hq' hD2
 go_enter Tryz.func164,Tryz.ntmps164
 go_wp2_with fail
 go_ret
 exact ⟨rfl,rfl⟩
set_option maxRecDepth 8000 in
set_option maxHeartbeats 4000000 in
theorem termSum2_any {v:Value} {Z B odd a:Nat} (w:World) (hkc:KC 51 w a #[.int .u64 ((odd:Nat):Int)]) (ho:odd≤1) (h:Num w v Z) (hZ:2*Z≤2^B) (hB:B≤100000) :
 Calls Tryz.prog 154 #[v,.int .i64 (B:Int),.func (.func 164) #[] #[.pointer (some ⟨a,0,none⟩)]] w (NP w (fsN (dSq odd) Z B (B+1))):=by
 have hZ2:nb Z≤B+1:=by
  have h1:Z≤2^B:=by omega
  have:=nb_mono h1
  rw [nb_pow5] at this
  exact this
 have bA:=alloc_bel w (cw 1)
 have nA:=num_one (slw5 w 1 _ (by unfold B64;omega) rfl) (by omega)
 have SL:=Lib.hid (shlN (s:=B) _ nA (by rw [nb1];omega) (by omega))
 rw [Nat.one_mul] at SL
 have HF:=Lib.hid (fun k=>nb_ft (D:=dSq odd) hZ k)
 have HS:=Lib.hid (fun k (hk:k < 2^20)=>nb_fs (D:=dSq odd) (k:=k) hZ hk)
 have HE:=Lib.hid (fun k (hk:B < k)=>ft_nought (D:=dSq odd) (b:=B) (n:=k) hZ hk)
 have HST:=Lib.hid (fun k j (hk:ftN (dSq odd) Z B k=0)=>ft_stays hk j)
 clear nA
 go_enter Tryz.func154,Tryz.ntmps154
 go_wp2_with fail
 refine SL.out.mono ?_
 rintro e' w1 ⟨A1,p1,c1,rfl,n1,b⟩
 have b1:=below_step bA b
 clear SL bA b
 go_wp2_with fail
 go_loopw [7,8,9] (fun s7 s8 s9 wr=>∃ (k:Nat) (A:Option Addr) (p c:Nat) (A':Option Addr) (p' c':Nat),k≤B+1∧s7=.slice A p c∧s8=.slice A' p' c'∧s9=.int .u64 ((k+1:Nat):Int)∧Num wr (.slice A p c) (ftN (dSq odd) Z B k)∧Num wr (.slice A' p' c') (fsN (dSq odd) Z B k)∧Below w.heap.size w wr) (fun _ _ s9 _=>B+3-(intOf s9).toNat)
 case atStart=>exact ⟨0,A1,p1,c1,A1,p1,c1,by omega,rfl,rfl,rfl,n1,n1,b1⟩
 case round =>
  obtain ⟨k,A,p,c,A',p',c',hk,rfl,rfl,rfl,nT,nS,bw⟩:=hrel
  by_cases h0:ftN (dSq odd) Z B k=0
  · obtain rfl:p=0:=(num_len0 nT).2 h0
    have hst:=(HST.out k (B+1-k) h0).2
    rw [show k+(B+1-k)=B+1 by omega] at hst
    go_wp2_with fail
    go_ret
    exact ⟨A',p',c',rfl,by rw [hst];exact nS,bw⟩
  · have hp:p≠0:=fun h=>h0 ((num_len0 nT).1 h)
    have hd:decide ((0:Int) < (p:Int))=true:=decide_eq_true (by omega)
    have hk2:k≤B:=by
     rcases Nat.lt_or_ge B k with h1 | h1
     · exact absurd (HE.out k h1) h0
     · exact h1
    have hf:=HF.out k
    have hf2:=HF.out (k+1)
    have hs:=HS.out k (by omega)
    obtain ⟨D,hDq⟩:∃ D,D=dSq odd (k+1):=⟨_,rfl⟩
    have hDs:=dsq_small (n:=k+1) ho (by omega)
    have hD0:=(dv_sq (odd:=odd)).pos k
    have MU:=Lib.hid (mulN wr nT (h.below bw) (by omega) (by omega))
    have hpr:=nb_prod (ftN (dSq odd) Z B k) Z
    have hnx:Hid (ftN (dSq odd) Z B (k+1)=ftN (dSq odd) Z B k*Z/2^B/D):=Lib.hid (by rw [hDq];rfl)
    have hns:Hid (fsN (dSq odd) Z B (k+1)=fsN (dSq odd) Z B k+ftN (dSq odd) Z B (k+1)):=Lib.hid rfl
    go_wp2_with fail
    refine MU.out.mono ?_
    rintro e' w2 ⟨A2,p2,c2,rfl,n2,b⟩
    have b2:=below_step bw b
    replace nS:=nS.below b
    clear MU b nT
    have SR:=Lib.hid (shrN (s:=B) w2 n2 (by omega) (by omega))
    go_wp2_with fail
    refine SR.out.mono ?_
    rintro e' w3 ⟨A3,p3,c3,rfl,n3,b⟩
    have b3:=below_step b2 b
    replace nS:=nS.below b
    clear SR b n2 b2
    have PW:=Lib.hid (sq1_any odd (k+1) a w3 (hkc.adv b3) ho (by omega) (by omega))
    rw [show ((k+1:Nat):Int)=(k:Int)+1 from rfl,← hDq] at PW
    rw [← hDq] at hDs hD0
    clear hDq
    go_wp2_with fail
    refine PW.out.mono ?_
    rintro e' w4 ⟨rfl,rfl⟩
    have bb:=alloc_bel w3 (cw D)
    have n4:=num_one (slw5 w3 D _ (by unfold B64;omega) rfl) (by omega)
    replace n3:=n3.below bb
    replace nS:=nS.below bb
    have b4:=below_step b3 bb
    have hk1:nb D≤64:=(nb_le_iff _ 64).2 (by have h64:(2:Nat)^64=18446744073709551616:=(by decide);omega)
    have hd3:nb (ftN (dSq odd) Z B k*Z/2^B)≤1000000:=Nat.le_trans (nb_mono (Nat.div_le_self _ _)) (by omega)
    have DV:=Lib.hid (divN _ n3 n4 (by omega) (by omega) (by omega))
    clear bb b3 n3 n4 PW
    go_wp2_with fail
    refine DV.out.mono ?_
    rintro e' w6 ⟨A6,p6,c6,A7,p7,c7,rfl,n6,_,b⟩
    have b6:=below_step b4 b
    replace nS:=nS.below b
    clear DV b b4
    rw [← hnx.out] at n6
    have AD:=Lib.hid (addN w6 nS n6 (by omega) (by omega))
    rw [← hns.out] at AD
    go_wp2_with fail
    refine AD.out.mono ?_
    rintro e' w7 ⟨A8,p8,c8,rfl,n8,b⟩
    have b7:=below_step b6 b
    replace n6:=n6.below b
    go_wp2_with fail
    go_roundw
    case rel=>exact ⟨k+1,A6,p6,c6,A8,p8,c8,by omega,rfl,rfl,by go_num,n6,n8,b7⟩
    case measure=>simp [intOf];omega
end Go.Proofs.YtmbmohibpkepdaaGreatDoor
