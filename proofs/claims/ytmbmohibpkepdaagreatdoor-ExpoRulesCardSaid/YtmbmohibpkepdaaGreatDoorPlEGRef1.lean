/-
 volvelleref01: digits of 16 bits, and words of digits.
 volvelleref01: Cmp, Add, minus, Sub: what the document answers, in plain numbers.
 volvelleref01: minus, Sub.
 volvelleref01.Shl.
-/
import Derived.Test.YtmbmohibpkepdaaGreatDoorPlEGNat1
import Derived.Test.YtmbmohibpkepdaaGreatDoorPlEGNat2
import Derived.Test.YtmbmohibpkepdaaGreatDoorPlEGNat3
namespace Go.Proofs.YtmbmohibpkepdaaGreatDoor
open Go.RowKit
def dg (x:Nat→Nat) (j:Nat):Nat:=x (j/4)/65536^(j%4)%65536
theorem dg_lt (x:Nat→Nat) (j:Nat):dg x j < 65536:=Nat.mod_lt _ (by omega)
theorem dg_at (x:Nat→Nat) (i k:Nat) (h:k < 4):dg x (4*i+k)=x i/65536^k%65536:=by
 unfold dg
 rw [show (4*i+k)/4=i by omega,show (4*i+k)%4=k by omega]
theorem pow4 (n:Nat):65536^(4*n)=B64^n:=by
 rw [Nat.pow_mul];congr 1
theorem vs_dg (x:Nat→Nat) (n:Nat) (h:∀ j,j < n→x j < B64):vs 65536 (dg x) (4*n)=vs B64 x n:=by
 induction n with
 | zero=>rfl
 | succ n ih =>
  have h1:=h n (by omega)
  rw [Nat.mul_succ,vs_add,ih (fun j hj=>h j (by omega)),pow4,vs_succ B64 x n]
  have e:vs 65536 (fun j=>dg x (4*n+j)) 4=x n:=by
   simp only [vs,Nat.zero_add]
   rw [dg_at x n 0 (by omega),dg_at x n 1 (by omega),dg_at x n 2 (by omega),dg_at x n 3 (by omega)]
   unfold B64 at h1
   simp only [Nat.pow_zero,Nat.div_one,Nat.pow_one,Nat.mul_one]
   omega
  rw [e,Nat.mul_comm]
def digitsPost (w:World) (x:Nat→Nat) (n:Nat) (e:Ending) (w':World):Prop:=∃ A c,e=.returned (.slice A (tl (dg x) (4*n)) c)∧Sl w' A (tl (dg x) (4*n)) c (dg x)∧Below w.heap.size w w'
set_option maxHeartbeats 400000 in
theorem digits_any (A:Option Addr) (n c:Nat) (x:Nat→Nat) (w:World) (h:Sl w A n c x) (hn:n≤200000) :
 Calls Tryz.prog 116 #[.slice A n c] w (digitsPost w x n):=by
 go_enter Tryz.func116,Tryz.ntmps116
 go_wp2
 go_loopw [3,4] (fun v i wr=>∃ k:Nat,k≤n∧i=.int .i64 (k:Int)∧Own 51 wr w.heap.size v (4*k) (dg x)∧Below w.heap.size w wr) (fun _ i _=>n-(intOf i).toNat)
 case atStart=>exact ⟨0,Nat.zero_le _,rfl,Own.nil _ _ _ _,Below.refl _ _⟩
 case round =>
  obtain ⟨k,hk,rfl,hown,hbw⟩:=hrel
  by_cases hlt:k < n
  · obtain ⟨ad,rfl,hb,hx64,hcell⟩:=(h.below hbw).at_ hlt
    obtain ⟨wo,rfl⟩:∃ wo:World,wo=wr:=⟨_,rfl⟩
    go_wp2
    go_loopw [3,5,6] (fun v z i wr=>∃ m:Nat,m≤4∧i=.int .i64 (m:Int)∧z=.int .u64 ((x k/65536^m:Nat):Int)∧Own 51 wr w.heap.size v (4*k+m) (dg x)∧Below w.heap.size w wr) (fun _ _ i _=>4-(intOf i).toNat)
    case atStart=>exact ⟨0,by omega,rfl,by simp,hown,hbw⟩
    case round =>
     clear hown hbw hcell hb
     obtain ⟨m,hm,rfl,rfl,hown,hbw⟩:=hrel
     by_cases hm4:m < 4
     · have hz:x k/65536^m≤18446744073709551615:=by
        have:=Nat.div_le_self (x k) (65536^m)
        unfold B64 at hx64;omega
       have hdg:Hid (dg x (4*k+m)=x k/65536^m%65536):=Lib.hid (dg_at x k m hm4)
       have hnext:Hid (x k/65536^(m+1)=x k/65536^m/65536):=Lib.hid (by rw [Nat.pow_succ,Nat.div_div_eq_div_mul])
       generalize x k/65536^m=z at *
       go_wp2_with (at_builtin;refine wpList_append_int rfl (.tmp 21) (.tmp 24) 22 rfl w.heap.size 51 Tryz.underlying22 info64 _ (4*k+m) (dg x) rfl hown (z%65536) _ (by simp) rfl (by unfold B64;omega) (by omega) hbw.size ?_;intro v1 w1 hown1 hbel)
       go_roundw
       case rel=>exact ⟨m+1,by omega,by go_num,by rw [hnext.out];rfl,hown1.congr (fun j hj=>by unfold upd;split;(rename_i e;rw [e,hdg.out]);rfl),hbel _ _ (Nat.le_refl _) hbw⟩
       case measure=>simp [intOf];omega
     · obtain rfl:m=4:=by omega
       go_wp2
       go_roundw
       case rel=>exact ⟨k+1,by omega,by go_num,by rw [Nat.mul_succ];exact hown,hbw⟩
       case measure=>simp [intOf];omega
  · obtain rfl:k=n:=by omega
    obtain ⟨A2,c2,rfl,s2,_⟩:=hown.sl
    go_wp2_with fail
    refine (cut_any A2 (4*k) c2 (dg x) wr s2 (by omega)).mono ?_
    rintro e w5 ⟨rfl,rfl⟩
    go_wp2_with fail
    go_ret
    exact ⟨A2,c2,rfl,s2.take (tl_le _ _),hbw⟩
def padf (f:Nat→Nat) (m:Nat):Nat→Nat:=fun j=>if j < m then f j else 0
theorem padf_lt {f:Nat→Nat} {m:Nat} (h:∀ j,j < m→f j < 65536) (j:Nat):padf f m j < 65536:=by
 unfold padf;split
 · exact h j (by assumption)
 · omega
def wd (d:Nat→Nat) (t:Nat):Nat:=vs 65536 (fun j=>d (4*t+j)) 4
theorem wd_lt {d:Nat→Nat} (h:∀ j,d j < 65536) (t:Nat):wd d t < B64:=by
 have:=vs_lt (b:=65536) (f:=fun j=>d (4*t+j)) (n:=4) (fun j _=>h _)
 exact this
theorem wd_ne {d:Nat→Nat} {t j:Nat} (hj:j < 4) (h:d (4*t+j)≠0):wd d t≠0:=by
 unfold wd
 simp only [vs,Nat.zero_add]
 have:j=0∨j=1∨j=2∨j=3:=by omega
 rcases this with rfl | rfl | rfl | rfl <;> omega
theorem wd_eq (d:Nat→Nat) (t:Nat):vs 65536 (fun j=>d (4*t+j)) 4=wd d t:=by unfold wd;rfl
theorem vs_wd (d:Nat→Nat) (T:Nat):vs B64 (wd d) T=vs 65536 d (4*T):=by
 induction T with
 | zero=>rw [Nat.mul_zero,vs_zero,vs_zero]
 | succ T ih =>
  have h1:=vs_add 65536 d (4*T) 4
  rw [wd_eq,pow4,← ih] at h1
  have h2:=vs_succ B64 (wd d) T
  have h3:4*(T+1)=4*T+4:=by omega
  rw [h3,h1,h2,Nat.mul_comm]
theorem part_lt {d:Nat→Nat} (h:∀ j,d j < 65536) (s K:Nat) (hK:1≤K):vs 65536 (fun j=>d (s+K+j)) (4-K)≤281474976710655:=by
 have h1:=vs_lt (b:=65536) (f:=fun j=>d (s+K+j)) (n:=4-K) (fun j _=>h _)
 have h2:65536^(4-K)≤65536^3:=Nat.pow_le_pow_right (by omega) (by omega)
 omega
theorem part_step (d:Nat→Nat) (s K:Nat) (hK:K < 4):vs 65536 (fun j=>d (s+K+j)) (4-K)=vs 65536 (fun j=>d (s+(K+1)+j)) (4-(K+1))*65536+d (s+K):=by
 obtain ⟨r,hr⟩:∃ r,4-K=r+1:=⟨3-K,by omega⟩
 rw [hr,vs_cons,show 4-(K+1)=r by omega,Nat.mul_comm,Nat.add_comm]
 congr 2
 exact vs_congr fun j _=>by congr 1;omega
set_option maxHeartbeats 400000 in
theorem words_any (A:Option Addr) (n c:Nat) (f:Nat→Nat) (w:World) (h:Sl w A n c f) (hd:∀ j,j < n→f j < 65536) (hn:n≤1000000) :
 Calls Tryz.prog 189 #[.slice A n c] w (NumPost w (vs 65536 f n)):=by
 have hl:=tl_le f n
 have hs:=h.take hl
 have hcn:=tl_cn f n
 rw [← vs_tl 65536 f n]
 have C:=Lib.hid (cut_any A n c f w h hn)
 have hp:Hid (∀ j,padf f (tl f n) j < 65536):=Lib.hid (padf_lt fun j hj=>hd j (by omega))
 clear hd h
 generalize tl f n=m at *
 go_enter Tryz.func189,Tryz.ntmps189
 go_wp2_with fail
 refine C.out.mono ?_
 rintro e w' ⟨rfl,rfl⟩
 go_wp2_with fail
 go_loopw [3,4] (fun v s4 wr=>∃ t i:Nat,i≤m+3∧s4=.int .i64 (i:Int)∧Hid (i=4*t)∧Own 51 wr w.heap.size v t (wd (padf f m))∧Below w.heap.size w wr) (fun _ i _=>m+4-(intOf i).toNat)
 case atStart=>exact ⟨0,0,by omega,rfl,Lib.hid rfl,Own.nil _ _ _ _,Below.refl _ _⟩
 case round =>
  obtain ⟨t,i,hi,rfl,hit,hown,hbw⟩:=hrel
  by_cases hlt:i < m
  · obtain ⟨wo,rfl⟩:∃ wo:World,wo=wr:=⟨_,rfl⟩
    have hsw:=hs.below hbw
    go_wp2
    go_loop [5,6] (fun s5 s6=>∃ K z:Nat,K≤4∧s6=.int .i64 ((K:Int)-1)∧s5=.int .u64 (z:Int)∧Hid (z=vs 65536 (fun j=>padf f m (i+K+j)) (4-K))) (fun _ i=>(intOf i+1).toNat)
    case atStart=>exact ⟨4,0,by omega,rfl,rfl,Lib.hid rfl⟩
    case round =>
     obtain ⟨K,z,hK,rfl,rfl,hz⟩:=hrel
     rcases K with _ | K
     · have hz':Hid (z=wd (padf f m) t):=Lib.hid (by rw [hz.out,hit.out];rfl)
       have hzB:z < B64:=by rw [hz'.out];exact wd_lt hp.out t
       clear hz
       go_wp2_with (at_builtin;refine wpList_append_int rfl (.tmp 35) (.tmp 37) 22 rfl w.heap.size 51 Tryz.underlying22 info64 _ t (wd (padf f m)) rfl hown z _ rfl rfl hzB (by have:=hit.out;omega) hbw.size ?_;intro v1 w1 hown1 hbel)
       go_roundw
       case rel=>exact ⟨t+1,i+4,by omega,by go_num,Lib.hid (by rw [hit.out];omega),hown1.congr (fun j hj=>by unfold upd;split;(rename_i e;rw [e,hz'.out]);rfl),hbel _ _ (Nat.le_refl _) hbw⟩
       case measure=>simp [intOf];omega
     · rw [show (((K+1:Nat):Int)-1)=(K:Int) from by omega]
       have hzb:z≤281474976710655:=by rw [hz.out];exact part_lt hp.out i (K+1) (by omega)
       have hst:=Lib.hid (part_step (padf f m) i K (by omega))
       by_cases hik:i+K < m
       · obtain ⟨ad,rfl,hb,hx64,hcell⟩:=hsw.at_ hik
         have hfd:f (i+K)≤65535:=by have:=hp.out (i+K);unfold padf at this;rw [if_pos hik] at this;omega
         have hpd:Hid (padf f m (i+K)=f (i+K)):=Lib.hid (by unfold padf;rw [if_pos hik])
         generalize f (i+K)=y at *
         go_wp2
         go_round
         case rel=>exact ⟨K,z*65536+y,by omega,by go_num,by go_num,Lib.hid (by rw [hst.out,← hz.out,hpd.out])⟩
         case measure=>simp [intOf]
       · have hpd:Hid (padf f m (i+K)=0):=Lib.hid (by unfold padf;rw [if_neg hik])
         go_wp2
         go_round
         case rel=>exact ⟨K,z*65536,by omega,by go_num,by go_num,Lib.hid (by rw [hst.out,← hz.out,hpd.out,Nat.add_zero])⟩
         case measure=>simp [intOf]
  · obtain ⟨A2,c2,rfl,s2,_⟩:=hown.sl
    go_wp2_with fail
    go_ret
    refine ⟨_,rfl,⟨A2,t,c2,_,rfl,s2,?_,?_⟩,hbw⟩
    · rcases Nat.eq_zero_or_pos t with h0 | h0
      · exact .inl h0
      · have hit':=hit.out
        rcases hcn with hm | hm
        · omega
        · refine .inr (wd_ne (j:=m-1-4*(t-1)) (by omega) ?_)
          rw [show 4*(t-1)+(m-1-4*(t-1))=m-1 by omega]
          unfold padf;rw [if_pos (by omega)];exact hm
    · rw [vs_wd]
      have hit':=hit.out
      exact vs_pad 65536 f m (4*t) (by omega)
end Go.Proofs.YtmbmohibpkepdaaGreatDoor
namespace Go.Proofs.YtmbmohibpkepdaaGreatDoor
open Go.RowKit
theorem dg_val {w:World} {A:Option Addr} {n c:Nat} {x:Nat→Nat} (h:Sl w A n c x):vs 65536 (dg x) (tl (dg x) (4*n))=vs B64 x n:=by rw [vs_tl,vs_dg x n h.small]
theorem rcmp_any (A B:Option Addr) (n m c d:Nat) (x y:Nat→Nat) (w:World) (ha:Sl w A n c x) (hb:Sl w B m d y) (hn:n≤200000) (hm:m≤200000) :
 Calls Tryz.prog 64 #[.slice A n c,.slice B m d] w (CmpPost w (cmpN (vs B64 x n) (vs B64 y m))):=by
 rw [← dg_val ha,← dg_val hb]
 have D1:=Lib.hid (digits_any A n c x w ha hn)
 have l1:=tl_le (dg x) (4*n)
 have l2:=tl_le (dg y) (4*m)
 have c1:=tl_cn (dg x) (4*n)
 have c2:=tl_cn (dg y) (4*m)
 go_enter Tryz.func64,Tryz.ntmps64
 go_wp2_with fail
 refine D1.out.mono ?_
 rintro e w1 ⟨A1,c3,rfl,s1,b1⟩
 go_wp2_with fail
 refine (digits_any B m d y w1 (hb.below b1) hm).mono ?_
 rintro e w2 ⟨A2,c4,rfl,s2,b2⟩
 go_wp2_with fail
 refine (compare_any A1 A2 _ _ c3 c4 (dg x) (dg y) w2 (s1.below b2) s2 c1 c2 (fun j _=>dg_lt x j) (fun j _=>dg_lt y j) (by omega) (by omega)).mono ?_
 rintro e w3 ⟨rfl,b3⟩
 go_wp2_with fail
 go_ret
 exact ⟨rfl,b1.trans ((b2.trans (b3.mono b2.size)).mono b1.size)⟩
def Carry (F X Y:Nat→Nat) (k cy:Nat):Prop:=cy≤1∧(∀ j,j < k→F j < 65536)∧vs 65536 F k+cy*65536^k=vs 65536 X k+vs 65536 Y k
theorem Carry.step {F X Y:Nat→Nat} {k cy a b:Nat} (h:Carry F X Y k cy) (ha:X k=a) (hb:Y k=b) (ha':a < 65536) (hb':b < 65536):Carry (upd F k ((cy+a+b)%65536)) X Y (k+1) ((cy+a+b)/65536):=by
 obtain ⟨h1,h2,h3⟩:=h
 refine ⟨by omega,fun j hj=>?_,?_⟩
 · unfold upd;split
   · omega
   · exact h2 j (by omega)
 · rw [vs_succ,vs_succ,vs_succ,upd_same,vs_upd_ge _ _ _ _ _ (Nat.le_refl _),ha,hb]
   exact step_add h3 (by omega)
theorem vs_padf (f:Nat→Nat) (m n:Nat) (h:m≤n):vs 65536 (padf f m) n=vs 65536 f m:=vs_pad 65536 f m n h
set_option maxHeartbeats 400000 in
theorem radd_any (A B:Option Addr) (n m c d:Nat) (x y:Nat→Nat) (w:World) (ha:Sl w A n c x) (hb:Sl w B m d y) (hn:n≤100000) (hm:m≤100000) :
 Calls Tryz.prog 163 #[.slice A n c,.slice B m d] w (NumPost w (vs B64 x n+vs B64 y m)):=by
 rw [← dg_val ha,← dg_val hb]
 have D1:=Lib.hid (digits_any A n c x w ha (by omega))
 have D2:Hid (∀ w1,Below w.heap.size w w1→Calls Tryz.prog 116 #[.slice B m d] w1 (digitsPost w1 y m)):=Lib.hid fun w1 b1=>digits_any B m d y w1 (hb.below b1) (by omega)
 have l1:=tl_le (dg x) (4*n)
 have l2:=tl_le (dg y) (4*m)
 unfold digitsPost at D1 D2
 have G1:Hid (∀ j,dg x j < 65536):=Lib.hid (dg_lt x)
 have G2:Hid (∀ j,dg y j < 65536):=Lib.hid (dg_lt y)
 generalize dg x=X at *
 generalize dg y=Y at *
 generalize tl X (4*n)=p at *
 generalize tl Y (4*m)=q at *
 go_enter Tryz.func163,Tryz.ntmps163
 go_wp2_with fail
 refine D1.out.mono ?_
 rintro e w1 ⟨A1,c3,rfl,s1,b1⟩
 go_wp2_with fail
 refine (D2.out w1 b1).mono ?_
 rintro e w2 ⟨A2,c4,rfl,s2,b2⟩
 have s1':=s1.below b2
 have b12:Below w.heap.size w w2:=b1.trans (b2.mono b1.size)
 clear s1 b1 b2
 go_wp2_with fail
 go_loopw [7,8,9] (fun v s8 s9 wr=>∃ k cy F,k≤max p q∧s9=.int .i64 ((k:Nat):Int)∧s8=.int .u64 ((cy:Nat):Int)∧Own 51 wr w2.heap.size v k F∧Carry F (padf X p) (padf Y q) k cy∧Below w2.heap.size w2 wr) (fun _ _ i _=>max p q-(intOf i).toNat)
 case atStart=>exact ⟨0,0,X,Nat.zero_le _,rfl,rfl,Own.nil _ _ _ _,⟨by omega,fun j h=>absurd h (by omega),by simp [vs_zero]⟩,Below.refl _ _⟩
 case round =>
  obtain ⟨k,cy,F,hk,rfl,rfl,hown,hcar,hbw⟩:=hrel
  have hcy:=hcar.1
  by_cases hkp:k < p
  · obtain ⟨ad,rfl,hb1,hx64,hc1⟩:=(s1'.below hbw).at_ hkp
    have g1:=G1.out k
    have hX:Hid (padf X p k=X k):=Lib.hid (by unfold padf;rw [if_pos hkp])
    by_cases hkq:k < q
    · obtain ⟨bd,rfl,hb2,hy64,hc2⟩:=(s2.below hbw).at_ hkq
      have g2:=G2.out k
      have hY:Hid (padf Y q k=Y k):=Lib.hid (by unfold padf;rw [if_pos hkq])
      have hst:=Lib.hid (hcar.step hX.out hY.out g1 g2)
      generalize X k=a at *
      generalize Y k=b at *
      go_wp2_with (at_builtin;refine wpList_append_int rfl (.tmp 48) (.tmp 51) 22 rfl w2.heap.size 51 Tryz.underlying22 info64 _ k F rfl hown ((cy+a+b)%65536) _ (by omega) rfl (by unfold B64;omega) (by omega) hbw.size ?_;intro v1 w3 hown1 hbel)
      go_roundw
      case rel=>exact ⟨k+1,(cy+a+b)/65536,_,by omega,by go_num,by go_num,hown1,hst.out,hbel _ _ (Nat.le_refl _) hbw⟩
      case measure=>simp [intOf];omega
    · have hY:Hid (padf Y q k=0):=Lib.hid (by unfold padf;rw [if_neg hkq])
      have hst:=Lib.hid (hcar.step hX.out hY.out g1 (by omega))
      generalize X k=a at *
      go_wp2_with (at_builtin;refine wpList_append_int rfl (.tmp 48) (.tmp 51) 22 rfl w2.heap.size 51 Tryz.underlying22 info64 _ k F rfl hown ((cy+a+0)%65536) _ (by omega) rfl (by unfold B64;omega) (by omega) hbw.size ?_;intro v1 w3 hown1 hbel)
      go_roundw
      case rel=>exact ⟨k+1,(cy+a+0)/65536,_,by omega,by go_num,by go_num,hown1,hst.out,hbel _ _ (Nat.le_refl _) hbw⟩
      case measure=>simp [intOf];omega
  · have hX:Hid (padf X p k=0):=Lib.hid (by unfold padf;rw [if_neg hkp])
    by_cases hkq:k < q
    · obtain ⟨bd,rfl,hb2,hy64,hc2⟩:=(s2.below hbw).at_ hkq
      have g2:=G2.out k
      have hY:Hid (padf Y q k=Y k):=Lib.hid (by unfold padf;rw [if_pos hkq])
      have hst:=Lib.hid (hcar.step hX.out hY.out (by omega) g2)
      generalize Y k=b at *
      go_wp2_with (at_builtin;refine wpList_append_int rfl (.tmp 48) (.tmp 51) 22 rfl w2.heap.size 51 Tryz.underlying22 info64 _ k F rfl hown ((cy+0+b)%65536) _ (by omega) rfl (by unfold B64;omega) (by omega) hbw.size ?_;intro v1 w3 hown1 hbel)
      go_roundw
      case rel=>exact ⟨k+1,(cy+0+b)/65536,_,by omega,by go_num,by go_num,hown1,hst.out,hbel _ _ (Nat.le_refl _) hbw⟩
      case measure=>simp [intOf];omega
    · have hkpq:k=max p q:=by omega
      have hfin:Hid (vs 65536 (upd F k cy) (k+1)=vs 65536 X p+vs 65536 Y q):=Lib.hid (by
       rw [vs_succ,upd_same,vs_upd_ge _ _ _ _ _ (Nat.le_refl _),hcar.2.2,vs_padf _ _ _ (by omega),vs_padf _ _ _ (by omega)])
      have hdig:Hid (∀ j,j < k+1→upd F k cy j < 65536):=Lib.hid (fun j hj=>by
       unfold upd;split
       · omega
       · exact hcar.2.1 j (by omega))
      clear hkpq
      go_wp2_with (at_builtin;refine wpList_append_int rfl (.tmp 55) (.tmp 57) 22 rfl w2.heap.size 51 Tryz.underlying22 info64 _ k F rfl hown cy _ rfl rfl (by unfold B64;omega) (by omega) hbw.size ?_;intro v1 w3 hown1 hbel)
      obtain ⟨A3,c5,rfl,s3,_⟩:=hown1.sl
      refine (words_any A3 (k+1) c5 _ w3 s3 hdig.out (by omega)).mono ?_
      rintro e w4 ⟨v4,rfl,hnum,b4⟩
      rw [hfin.out] at hnum
      go_wp2_with fail
      go_ret
      have hb3:=hbel _ _ (Nat.le_refl _) hbw
      exact ⟨v4,rfl,hnum,b12.trans ((hb3.trans (b4.mono hb3.size)).mono b12.size)⟩
end Go.Proofs.YtmbmohibpkepdaaGreatDoor
namespace Go.Proofs.YtmbmohibpkepdaaGreatDoor
open Go.RowKit
def Borrow (F X Y:Nat→Nat) (k bw:Nat):Prop:=bw≤1∧(∀ j,j < k→F j < 65536)∧vs 65536 F k+vs 65536 Y k=vs 65536 X k+bw*65536^k
theorem Borrow.step {F X Y:Nat→Nat} {k bw a b:Nat} (h:Borrow F X Y k bw) (ha:X k=a) (hb:Y k=b) (ha':a < 65536) (hb':b < 65536):Borrow (upd F k ((a+65536-bw-b)%65536)) X Y (k+1) (1-(a+65536-bw-b)/65536):=by
 obtain ⟨h1,h2,h3⟩:=h
 refine ⟨by omega,fun j hj=>?_,?_⟩
 · unfold upd;split
   · omega
   · exact h2 j (by omega)
 · rw [vs_succ,vs_succ,vs_succ,upd_same,vs_upd_ge _ _ _ _ _ (Nat.le_refl _),ha,hb]
   exact step_sub h3 (by omega)
theorem Borrow.end_ {F X Y:Nat→Nat} {p q bw:Nat} (h:Borrow F X (padf Y q) p bw) (hq:q≤p) (hle:vs 65536 Y q≤vs 65536 X p):vs 65536 F p=vs 65536 X p-vs 65536 Y q:=by
 obtain ⟨_,h2,h3⟩:=h
 rw [vs_padf _ _ _ hq] at h3
 have h4:=vs_lt h2
 rcases Nat.eq_zero_or_pos bw with h0 | h0
 · subst h0;omega
 · have h5:1*65536^p≤bw*65536^p:=Nat.mul_le_mul_right _ h0
   omega
def DigPost (w:World) (n V:Nat) (e:Ending) (w':World):Prop :=
 ∃ A k c F,e=.returned (.slice A k c)∧Sl w' A k c F∧k≤n∧(∀ j,j < k→F j < 65536)∧Cn k F∧vs 65536 F k=V∧Below w.heap.size w w'
set_option maxHeartbeats 400000 in
theorem minus_any (A B:Option Addr) (p q c d:Nat) (X Y:Nat→Nat) (w:World) (s1:Sl w A p c X) (s2:Sl w B q d Y) (g1:∀ j,j < p→X j < 65536) (g2:∀ j,j < q→Y j < 65536) (hq:q≤p) (hp:p≤900000)
 (hle:vs 65536 Y q≤vs 65536 X p):Calls Tryz.prog 188 #[.slice A p c,.slice B q d] w (DigPost w p (vs 65536 X p-vs 65536 Y q)):=by
 have G1:=Lib.hid g1
 have G2:=Lib.hid g2
 have HLE:=Lib.hid hle
 clear g1 g2 hle
 go_enter Tryz.func188,Tryz.ntmps188
 go_wp2_with fail
 go_loopw [5,6,7] (fun v s6 s7 wr=>∃ k bw F,k≤p∧s7=.int .i64 ((k:Nat):Int)∧s6=.int .u64 ((bw:Nat):Int)∧Own 51 wr w.heap.size v k F∧Borrow F X (padf Y q) k bw∧Below w.heap.size w wr) (fun _ _ i _=>p-(intOf i).toNat)
 case atStart=>exact ⟨0,0,X,Nat.zero_le _,rfl,rfl,Own.nil _ _ _ _,⟨by omega,fun j h=>absurd h (by omega),by simp [vs_zero]⟩,Below.refl _ _⟩
 case round =>
  obtain ⟨k,bw,F,hk,rfl,rfl,hown,hbor,hbw⟩:=hrel
  have hcy:=hbor.1
  by_cases hkp:k < p
  · obtain ⟨ad,rfl,hb1,hx64,hc1⟩:=(s1.below hbw).at_ hkp
    have g1:=G1.out k hkp
    by_cases hkq:k < q
    · obtain ⟨bd,rfl,hb2,hy64,hc2⟩:=(s2.below hbw).at_ hkq
      have g2:=G2.out k hkq
      have hY:Hid (padf Y q k=Y k):=Lib.hid (by unfold padf;rw [if_pos hkq])
      have hst:=Lib.hid (hbor.step rfl hY.out g1 g2)
      generalize X k=a at *
      generalize Y k=b at *
      go_wp2_with (at_builtin;refine wpList_append_int rfl (.tmp 32) (.tmp 35) 22 rfl w.heap.size 51 Tryz.underlying22 info64 _ k F rfl hown ((a+65536-bw-b)%65536) _ (by omega) rfl (by unfold B64;omega) (by omega) hbw.size ?_;intro v1 w3 hown1 hbel)
      go_roundw
      case rel=>exact ⟨k+1,1-(a+65536-bw-b)/65536,_,by omega,by go_num,by go_num,hown1,hst.out,hbel _ _ (Nat.le_refl _) hbw⟩
      case measure=>simp [intOf];omega
    · have hY:Hid (padf Y q k=0):=Lib.hid (by unfold padf;rw [if_neg hkq])
      have hst:=Lib.hid (hbor.step rfl hY.out g1 (by omega))
      generalize X k=a at *
      go_wp2_with (at_builtin;refine wpList_append_int rfl (.tmp 32) (.tmp 35) 22 rfl w.heap.size 51 Tryz.underlying22 info64 _ k F rfl hown ((a+65536-bw-0)%65536) _ (by omega) rfl (by unfold B64;omega) (by omega) hbw.size ?_;intro v1 w3 hown1 hbel)
      go_roundw
      case rel=>exact ⟨k+1,1-(a+65536-bw-0)/65536,_,by omega,by go_num,by go_num,hown1,hst.out,hbel _ _ (Nat.le_refl _) hbw⟩
      case measure=>simp [intOf];omega
  · obtain rfl:k=p:=by omega
    obtain ⟨A2,c2,rfl,s3,_⟩:=hown.sl
    go_wp2_with fail
    refine (cut_any A2 k c2 F wr s3 (by omega)).mono ?_
    rintro e w5 ⟨rfl,rfl⟩
    go_wp2_with fail
    go_ret
    have l:=tl_le F k
    exact ⟨A2,_,c2,F,rfl,s3.take l,l,fun j hj=>hbor.2.1 j (by omega),tl_cn F k,by rw [vs_tl,hbor.end_ hq HLE.out],hbw⟩
set_option maxHeartbeats 400000 in
theorem rsub_yes (A B:Option Addr) (n m c d:Nat) (x y:Nat→Nat) (w:World) (ha:Sl w A n c x) (hb:Sl w B m d y) (hn:n≤200000) (hm:m≤200000) (hle:vs B64 y m≤vs B64 x n) :
 Calls Tryz.prog 180 #[.slice A n c,.slice B m d] w (NumOkPost w (vs B64 x n-vs B64 y m)):=by
 rw [← dg_val ha,← dg_val hb] at hle ⊢
 have D1:=Lib.hid (digits_any A n c x w ha hn)
 have l1:=tl_le (dg x) (4*n)
 have l2:=tl_le (dg y) (4*m)
 have c1:=tl_cn (dg x) (4*n)
 have c2:=tl_cn (dg y) (4*m)
 have hqp:tl (dg y) (4*m)≤tl (dg x) (4*n):=cn_le (by omega) c2 (Nat.lt_of_le_of_lt hle (vs_lt (fun j _=>dg_lt x j)))
 go_enter Tryz.func180,Tryz.ntmps180
 go_wp2_with fail
 refine D1.out.mono ?_
 rintro e w1 ⟨A1,c3,rfl,s1,b1⟩
 go_wp2_with fail
 refine (digits_any B m d y w1 (hb.below b1) hm).mono ?_
 rintro e w2 ⟨A2,c4,rfl,s2,b2⟩
 have s1':=s1.below b2
 have C:=compare_any A1 A2 _ _ c3 c4 (dg x) (dg y) w2 s1' s2 c1 c2 (fun j _=>dg_lt x j) (fun j _=>dg_lt y j) (by omega) (by omega)
 obtain ⟨r,hr0,hr1⟩:∃ r:Nat,cmpN (vs 65536 (dg x) (tl (dg x) (4*n))) (vs 65536 (dg y) (tl (dg y) (4*m)))=(r:Int)∧r≤1:=by
  rcases Nat.lt_or_ge (vs 65536 (dg y) (tl (dg y) (4*m))) (vs 65536 (dg x) (tl (dg x) (4*n))) with h | h
  · exact ⟨1,by rw [cmpN_gt h];rfl,by omega⟩
  · exact ⟨0,by rw [Nat.le_antisymm h hle,cmpN_eq];rfl,by omega⟩
 rw [hr0] at C
 have HC:=Lib.hid C
 clear C hr0
 go_wp2_with fail
 refine HC.out.mono ?_
 rintro e w3 ⟨rfl,b3⟩
 go_wp2_with fail
 refine (minus_any A1 A2 _ _ c3 c4 (dg x) (dg y) w3 (s1'.below b3) (s2.below b3) (fun j _=>dg_lt x j) (fun j _=>dg_lt y j) hqp (by omega) hle).mono ?_
 rintro e w4 ⟨A5,k,c5,F,rfl,s5,hkn,hF,hcF,hvF,b4⟩
 have HV:=Lib.hid hvF
 clear hvF
 go_wp2_with fail
 refine (words_any A5 k c5 F w4 s5 hF (by omega)).mono ?_
 rintro e w5 ⟨v5,rfl,hnum,b5⟩
 rw [HV.out] at hnum
 go_wp2_with fail
 go_ret2
 refine ⟨v5,rfl,hnum,?_⟩
 have b34:=b3.trans (b4.mono b3.size)
 have b345:=b34.trans (b5.mono b34.size)
 exact b1.trans ((b2.trans (b345.mono b2.size)).mono b1.size)
end Go.Proofs.YtmbmohibpkepdaaGreatDoor
namespace Go.Proofs.YtmbmohibpkepdaaGreatDoor
open Go.RowKit
def ov (o:Nat→Nat) (r j:Nat):Nat:=if j=0 then 0 else o (j-1)/2^(64-r)
def sh (o:Nat→Nat) (r j:Nat):Nat:=o j*2^r%B64+ov o r j
theorem vs_sh (o:Nat→Nat) (r:Nat) (hr:r≤64) (k:Nat):vs B64 (sh o r) k+ov o r k*B64^k=vs B64 o k*2^r:=by
 induction k with
 | zero=>simp [vs_zero,ov]
 | succ k ih =>
  have h:=step_shl (x:=o k) hr ih
  have e1:sh o r k=ov o r k+o k*2^r%B64:=by unfold sh;rw [Nat.add_comm]
  have e2:ov o r (k+1)=o k/2^(64-r):=by unfold ov;rw [if_neg (by omega),Nat.add_sub_cancel]
  rw [vs_succ,vs_succ,e1,e2]
  exact h
theorem sh_lt (o:Nat→Nat) (r j:Nat) (hr:r≤64) (ho:∀ i,o i < B64):sh o r j < B64:=by
 have h:ov o r j < 2^r:=by
  unfold ov;split
  · exact Nat.two_pow_pos _
  · exact shr_lt _ _ hr (ho _)
 unfold sh;rw [Nat.add_comm];exact low_add_lt _ _ r hr h
def rawW (f:Nat→Nat) (W p:Nat):Nat→Nat:=fun j=>if j < W then 0 else if j < W+p then f (j-W) else 0
theorem rawW_lt {f:Nat→Nat} {W p:Nat} (h:∀ j,j < p→f j < B64) (j:Nat):rawW f W p j < B64:=by
 unfold rawW;split
 · exact B64_pos
 · split
   · exact h _ (by omega)
   · exact B64_pos
theorem cat_rawW (f:Nat→Nat) {W p j:Nat} (hj:j < W+p):cat (fun _=>0) W f j=rawW f W p j:=by
 unfold cat rawW
 by_cases h:j < W <;> simp [h,hj]
theorem vs_rawW (f:Nat→Nat) (W p:Nat):vs B64 (rawW f W p) (W+p)=vs B64 f p*B64^W:=by
 rw [vs_add,Nat.mul_comm]
 have e1:vs B64 (rawW f W p) W=0:=by
  have h:∀ k,k≤W→vs B64 (rawW f W p) k=0:=fun k=>by
   induction k with
   | zero=>intro _;rfl
   | succ k ih=>intro hk;rw [vs_succ,ih (by omega)];unfold rawW;rw [if_pos (by omega)];simp
  exact h W (Nat.le_refl _)
 rw [e1,Nat.zero_add]
 congr 1
 exact vs_congr fun j hj=>by unfold rawW;rw [if_neg (by omega),if_pos (by omega),Nat.add_sub_cancel_left]
theorem vs_rawW1 (f:Nat→Nat) (W p:Nat):vs B64 (rawW f W p) (W+p+1)=vs B64 f p*B64^W:=by
 rw [vs_succ,vs_rawW];unfold rawW;rw [if_neg (by omega),if_neg (by omega)];simp
def RShInv (t:TypeId) (w wr:World) (g B N:Nat) (o:Nat→Nat) (r k:Nat):Prop:=∃ F,Row t wr g N F∧Below B w wr∧(∀ j,k≤j→j < N→F j=sh o r j)∧∀ j,j < k→F j=o j
theorem RShInv.step {t:TypeId} {w w':World} {g B N r k v:Nat} {o F:Nat→Nat} (hF:∀ j,k < j→j < N→F j=sh o r j) (hG:∀ j,j < k→F j=o j) (hv:v=sh o r k) (hrow:Row t w' g N (upd F k v)) (hb:Below B w w'):RShInv t w w' g B N o r k:=by
 refine ⟨_,hrow,hb,fun j hj hjN=>?_,fun j hj=>?_⟩
 · unfold upd;split
   · rename_i e;rw [e,hv]
   · exact hF j (by omega) hjN
 · rw [upd_other _ _ _ _ (by omega)];exact hG j (by omega)
set_option maxHeartbeats 1000000 in
theorem rshl_core (A:Option Addr) (n c:Nat) (x:Nat→Nat) (s W r:Nat) (w:World) (ha:Sl w A n c x) (hn:n≤400000) (hW:W≤400000) (hr:r≤63) (eW:(s:Int)/64=(W:Int)) (er:(s:Int)%64=(r:Int)) (hs:s≤1048576) :
 Calls Tryz.prog 114 #[.slice A n c,.int .i64 (s:Int)] w (NumPost w (vs B64 x n*B64^W*2^r)):=by
 have hVb:Hid (vs B64 x n < B64^n):=Lib.hid (vs_lt ha.small)
 have T:=Lib.hid (rtrim_any A n c x w ha (by omega))
 generalize vs B64 x n=V at *
 have h0:¬ (s:Int) < 0:=by omega
 have h1:¬ (1048576:Int) < (s:Int):=by omega
 have hmk:∀ u:World,(Instr.makeSlice 22 (.int .i64 (W:Int)) (.int .i64 (W:Int))).run Tryz.prog u =
  .ok (.slice (some ⟨u.heap.size,0,none⟩) W W) (u.alloc (.cells (madeCells #[.int .u64 0] W) 51)):=fun u=>make_run W (by omega) u
 go_enter Tryz.func114,Tryz.ntmps114
 go_wp2_with fail
 refine T.out.mono ?_
 rintro e w1 ⟨v,rfl,⟨A1,p,c1,f,rfl,s1,cn,hv⟩,b1⟩
 have hp:p≤n:=cn_le B64_gt cn (by rw [hv];exact hVb.out)
 have HV:=Lib.hid hv
 clear hv hVb T
 rcases Nat.eq_zero_or_pos p with hp0 | hp0
 · subst hp0
   go_wp2_with fail
   go_ret
   refine ⟨_,rfl,⟨A1,0,c1,f,rfl,s1,.inl rfl,?_⟩,b1⟩
   rw [← HV.out,vs_zero];simp
 · have hpb:((p:Int) == 0)=false:=by simp;omega
   have hown0:=Own.made 51 w1 w1.heap.size W (Nat.le_refl _) (by omega)
   have sA:=s1.alloc (.cells (madeCells #[.int .u64 0] W) 51)
   have HC:Hid (∀ j,j < W+p→cat (fun _=>0) W f j=rawW f W p j):=Lib.hid fun j hj=>cat_rawW f hj
   have hfs:=Lib.hid s1.small
   rcases Nat.eq_zero_or_pos r with hr0 | hr0
   · subst hr0
     go_wp2_with (at_builtin;refine wpList_append_words rfl (.tmp 23) (.tmp 24) 22 rfl w1.heap.size 51 Tryz.underlying22 info64 _ W _ rfl hown0 A1 p c1 f rfl sA (by omega) (by simp) ?_;intro v2 w2 hown2 hbel2)
     go_ret
     have b2:=hbel2 _ _ (Nat.le_refl _) ((Below.refl _ w1).alloc (Nat.le_refl _) _)
     obtain ⟨A2,c2,rfl,s2,_⟩:=hown2.sl
     refine ⟨_,rfl,⟨A2,W+p,c2,rawW f W p,rfl,s2.congr HC.out,?_,?_⟩,b1.trans (b2.mono b1.size)⟩
     · refine .inr ?_
       rcases cn with h | h
       · omega
       · unfold rawW;rw [if_neg (by omega),if_pos (by omega),show W+p-1-W=p-1 by omega];exact h
     · rw [vs_rawW,HV.out];simp
   · have hrb:((r:Int) == 0)=false:=by simp;omega
     go_wp2_with (first
      | (at_builtin;refine wpList_append_words rfl (.tmp 23) (.tmp 24) 22 rfl w1.heap.size 51 Tryz.underlying22 info64 _ W _ rfl hown0 A1 p c1 f rfl sA (by omega) (by simp) ?_;intro v2 w2 hown2 hbel2;have b2:=hbel2 _ _ (Nat.le_refl _) ((Below.refl _ w1).alloc (Nat.le_refl _) _);clear hbel2)
      | (at_builtin;refine wpList_append_int rfl (.tmp 30) (.tmp 31) 22 rfl w1.heap.size 51 Tryz.underlying22 info64 _ (W+p) _ rfl hown2 0 _ rfl rfl B64_pos (by omega) b2.size ?_;intro v3 w3 hown3 hbel3;obtain ⟨g,c3,rfl,hg,hc3,hrow0⟩:=hown3.row (by omega)))
     have b3:=hbel3 _ _ (Nat.le_refl _) b2
     clear hbel3 hown3 hown2 hown0 sA b2
     have h00:RShInv 51 w1 w3 g w1.heap.size (W+p+1) (rawW f W p) r (W+p+1):=by
      refine ⟨rawW f W p,hrow0.congr fun j hj=>?_,b3,fun j h1 h2=>by omega,fun _ _=>rfl⟩
      rcases Nat.lt_or_ge j (W+p) with h | h
      · rw [upd_other _ _ _ _ (by omega)];exact HC.out j h
      · obtain rfl:j=W+p:=by omega
        rw [upd_same];unfold rawW;rw [if_neg (by omega),if_neg (by omega)]
     clear hrow0 b3
     have hfinv:Hid (vs B64 (sh (rawW f W p) r) (W+p+1)=V*B64^W*2^r):=Lib.hid (by
      have h:=vs_sh (rawW f W p) r (by omega) (W+p+1)
      rw [vs_rawW1,HV.out] at h
      have e:ov (rawW f W p) r (W+p+1)=0:=by
       unfold ov;rw [if_neg (by omega),Nat.add_sub_cancel];unfold rawW;rw [if_neg (by omega),if_neg (by omega)];simp
      rw [e,Nat.zero_mul,Nat.add_zero] at h
      exact h)
     have hoB:Hid (∀ j,rawW f W p j < B64):=Lib.hid (rawW_lt hfs.out)
     generalize rawW f W p=o at *
     generalize hD:W+p+1=D at *
     have hD1:D≤900000:=by omega
     have hD2:W+p+1≤D:=by omega
     have hD3:D≤W+p+1:=by omega
     clear hD
     go_loopw [7] (fun s7 wr=>∃ k:Nat,k≤D∧s7=.int .i64 ((k:Int)-1)∧RShInv 51 w1 wr g w1.heap.size D o r k) (fun s7 _=>(intOf s7+1).toNat)
     case atStart=>exact ⟨D,Nat.le_refl _,by go_num,h00⟩
     case round =>
      clear h00
      obtain ⟨k,hk,rfl,F,hrow,hb,hF,hG⟩:=hrel
      have HF:=Lib.hid hF
      have HG:=Lib.hid hG
      clear hF hG
      rcases k with _ | k
      · go_wp2_with fail
        have hsl:=hrow.sl0 D c3 (Nat.le_refl _) hc3
        refine (rtrim_any _ D c3 _ wr hsl (by omega)).mono ?_
        rintro e w5 ⟨v5,rfl,hnum,b5⟩
        go_wp2_with fail
        go_ret
        rw [vs_congr (fun j hj=>HF.out j (by omega) hj),hfinv.out] at hnum
        exact ⟨v5,rfl,hnum,b1.trans ((hb.trans (b5.mono hb.size)).mono b1.size)⟩
      · rw [show (((k+1:Nat):Int)-1)=(k:Int) from by omega]
        have hok:=HG.out k (by omega)
        have hrc:=hrow.cell (i:=k) (by omega)
        rw [hok] at hrc
        clear hok
        have hrf:=hrow.frozen k
        have es:IntKind.u64.wrap ((o k:Int)*2^r)=((o k*2^r%B64:Nat):Int):=shl_word _ _
        have hv1B:o k*2^r%B64 < B64:=Nat.mod_lt _ B64_pos
        rcases Nat.eq_zero_or_pos k with hk0 | hk0
        · have hlw:Hid (o k*2^r%B64=sh o r k):=Lib.hid (by unfold sh ov;rw [if_pos hk0,Nat.add_zero])
          generalize o k*2^r%B64=v1 at *
          generalize o k=ok at *
          subst hk0
          go_wp2_with fail
          go_roundw
          case rel=>exact ⟨0,by omega,by go_num,RShInv.step (fun j h1 h2=>HF.out j (by omega) h2) (fun j hj=>HG.out j (by omega)) hlw.out (hrow.set_ 0 v1 hv1B) (hb.setCell hg _)⟩
          case measure=>simp [intOf]
        · have hprev:=HG.out (k-1) (by omega)
          have hrow1:=hrow.set_ k _ hv1B
          have hrc1:=hrow1.cell (i:=k) (by omega)
          rw [upd_same] at hrc1
          have hrf1:=hrow1.frozen k
          have hrc2:=hrow1.cell (i:=k-1) (by omega)
          rw [upd_other _ _ _ _ (by omega),hprev] at hrc2
          clear hprev
          have hzB:=hoB.out (k-1)
          have eo:bits .or .u64 ((o k*2^r%B64:Nat):Int) (((o (k-1):Nat):Int)/2^(64-r))=((o k*2^r%B64+o (k-1)/2^(64-r):Nat):Int):=by
           rw [shr_word];exact or_word_int _ _ _ hzB (by omega)
          have hlw:Hid (o k*2^r%B64+o (k-1)/2^(64-r)=sh o r k):=Lib.hid (by unfold sh ov;rw [if_neg (by omega)])
          have hlwB:o k*2^r%B64+o (k-1)/2^(64-r) < B64:=by rw [hlw.out];exact sh_lt o r k (by omega) hoB.out
          generalize o k*2^r%B64+o (k-1)/2^(64-r)=v2 at *
          generalize o k*2^r%B64=v1 at *
          generalize o k=ok at *
          generalize o (k-1)=z at *
          obtain ⟨m,rfl⟩:∃ m,k=m+1:=⟨k-1,by omega⟩
          simp only [Nat.add_sub_cancel] at hrc2
          have q1:IntKind.i64.wrap (((m+1:Nat):Int)-1)=(m:Int):=by rw [IntWalk.i64_in _ (by omega)];omega
          have q2:IntKind.i64.wrap ((m:Int)+1-1)=(m:Int):=by rw [IntWalk.i64_in _ (by omega)];omega
          have q6:IntKind.i64.wrap (64-(r:Int))=64-(r:Int):=IntWalk.i64_in _ (by omega)
          have q7:(64-(r:Int)).toNat=64-r:=by omega
          have q8:0≤64-(r:Int):=by omega
          go_wp2_with fail
          clear hrc hrf
          have hb1:Below w1.heap.size w1 (wr.setCell ⟨g,m+1,none⟩ (.int .u64 (v1:Int))):=hb.setCell hg _
          generalize wr.setCell ⟨g,m+1,none⟩ (.int .u64 (v1:Int))=w4 at *
          go_region
          go_wp2_with fail
          go_roundw
          case rel=>exact ⟨m+1,by omega,by go_num,RShInv.step (fun j h1 h2=>by rw [upd_other _ _ _ _ (by omega)];exact HF.out j (by omega) h2) (fun j hj=>by rw [upd_other _ _ _ _ (by omega)];exact HG.out j (by omega)) hlw.out (hrow1.set_ (m+1) v2 hlwB).drew ((hb1.setCell hg _).drew)⟩
          case measure=>simp [intOf];omega
theorem rshl_any (A:Option Addr) (n c:Nat) (x:Nat→Nat) (s:Nat) (w:World) (ha:Sl w A n c x) (hn:n≤400000) (hs:s≤1048576) :
 Calls Tryz.prog 114 #[.slice A n c,.int .i64 (s:Int)] w (NumPost w (vs B64 x n*2^s)):=by
 rw [pow_split s,← Nat.mul_assoc]
 exact rshl_core A n c x s (s/64) (s%64) w ha hn (by omega) (by omega) (by omega) (by omega) hs
end Go.Proofs.YtmbmohibpkepdaaGreatDoor
