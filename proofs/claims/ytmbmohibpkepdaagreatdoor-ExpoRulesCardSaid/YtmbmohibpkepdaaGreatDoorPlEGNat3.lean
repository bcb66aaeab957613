/-
 math/bits.Div64 where the high word is 0; nat.divWord and nat.DivMod of one word by one word.
 nat.addTimes: x times b is added into words; nat.Mul: products.
 nat.subTimes: x times b is taken from words.
 nat.Mul answers the product, trimmed.
-/
import Derived.Test.YtmbmohibpkepdaaGreatDoorShelf
import Derived.Deep.QuietTactic
import Derived.BigQuiet
import Derived.Test.YtmbmohibpkepdaaGreatDoorPlEGLists
import Derived.Test.YtmbmohibpkepdaaGreatDoorPlEGNat1
namespace Go.Proofs.YtmbmohibpkepdaaGreatDoor
open Go.RowKit
theorem u64_nat (z:Nat) (h:z≤18446744073709551615):IntKind.u64.wrap (z:Int)=(z:Int):=IntWalk.u64_in _ (by omega)
def PairPost (w:World) (q r:Nat) (e:Ending) (w':World):Prop:=e=.returned (.tuple #[.int .u64 ((q:Nat):Int),.int .u64 ((r:Nat):Int)])∧∃ k,w'=w.drewN k
set_option maxHeartbeats 400000 in
set_option maxRecDepth 100000 in
theorem div64_zero (lo y:Nat) (w:World) (h0:0 < y) (h2:y < B64) (h3:lo < B64) :
 Calls Tryz.prog 199 #[.int .u64 0,.int .u64 (lo:Int),.int .u64 (y:Int)] w (PairPost w (lo/y) (lo%y)):=by
 have hy0:((y:Int) == 0)=false:=by simp;omega
 have hy6:y≤18446744073709551615:=by unfold B64 at *;omega
 have hlo:lo≤18446744073709551615:=by unfold B64 at *;omega
 have hd:IntKind.u64.wrap ((lo:Int)/(y:Int))=((lo/y:Nat):Int):=by
  have:lo/y≤lo:=Nat.div_le_self _ _
  rw [show ((lo:Int)/(y:Int))=((lo/y:Nat):Int) from rfl]
  exact u64_nat _ (Nat.le_trans this hlo)
 go_enter Tryz.func199,Tryz.ntmps199
 go_wp2_with fail
 go_quiet (fail)
 go_wp2_with fail
 go_ret2
 exact ⟨rfl,_,rfl⟩
theorem vs_cons (b:Nat) (f:Nat→Nat) (m:Nat):vs b f (m+1)=f 0+b*vs b (fun j=>f (j+1)) m:=by
 rw [Nat.add_comm,vs_add,vs_succ,vs_zero]
 simp only [Nat.pow_zero,Nat.mul_one,Nat.pow_one,Nat.zero_add]
 rw [vs_congr (f:=fun j=>f (1+j)) (g:=fun j=>f (j+1)) fun j _=>by rw [Nat.add_comm]]
def DivInv (t:TypeId) (w wr:World) (g n y:Nat) (x:Nat→Nat) (k r:Nat):Prop :=
 ∃ F,Row t wr g n F∧Below g w wr∧r < y∧(k=n→r=0)∧vs B64 (fun j=>x (k+j)) (n-k)=vs B64 (fun j=>F (k+j)) (n-k)*y+r
theorem DivInv.step {t:TypeId} {w wr w1:World} {g n y k r xk:Nat} {x F:Nat→Nat} (hk:k < n) (hx:x k=xk) (hrow:Row t wr g n F) (hb:Below g w wr) (hr:r < y)
 (hv:vs B64 (fun j=>x (k+1+j)) (n-(k+1))=vs B64 (fun j=>F (k+1+j)) (n-(k+1))*y+r) (hxk:xk < B64) (hb1:Below wr.heap.size wr w1) :
 DivInv t w (w1.setCell ⟨g,k,none⟩ (.int .u64 (((r*B64+xk)/y:Nat):Int))) g n y x k ((r*B64+xk)%y):=by
 have hq:(r*B64+xk)/y < B64:=by
  apply Nat.div_lt_of_lt_mul
  have:(r+1)*B64≤y*B64:=Nat.mul_le_mul_right _ hr
  rw [Nat.add_mul,Nat.one_mul] at this
  omega
 have hdm:=Nat.div_add_mod (r*B64+xk) y
 have hm:(r*B64+xk)%y < y:=Nat.mod_lt _ (by omega)
 generalize (r*B64+xk)/y=q at *
 generalize (r*B64+xk)%y=r' at *
 have hg:=hrow.lt
 refine ⟨upd F k q,(hrow.below hb1 hg).set_ _ _ hq,(hb.trans (hb1.mono (by omega))).setCell (Nat.le_refl _) _,hm,fun h=>by omega,?_⟩
 obtain ⟨m,hm2⟩:∃ m,n-k=m+1:=⟨n-k-1,by omega⟩
 have hm3:n-(k+1)=m:=by omega
 rw [hm3] at hv
 rw [hm2,vs_cons,vs_cons]
 have e1:vs B64 (fun j=>x (k+(j+1))) m=vs B64 (fun j=>x (k+1+j)) m:=vs_congr fun j _=>by congr 1;omega
 have e2:vs B64 (fun j=>upd F k q (k+(j+1))) m=vs B64 (fun j=>F (k+1+j)) m:=vs_congr fun j _=>by rw [upd_other _ _ _ _ (by omega)];congr 1;omega
 rw [e1,e2,hv]
 simp only [Nat.add_zero]
 rw [upd_same,hx]
 generalize vs B64 (fun j=>F (k+1+j)) m=Z at *
 rw [Nat.mul_add,Nat.add_mul]
 have e3:B64*(Z*y)=B64*Z*y:=by ac_rfl
 have e4:y*q=q*y:=Nat.mul_comm _ _
 have e5:B64*r=r*B64:=Nat.mul_comm _ _
 omega
def WordPost (w:World) (Q R:Nat) (e:Ending) (w':World):Prop:=∃ v,e=.returned (.tuple #[v,.int .u64 ((R:Nat):Int)])∧Num w' v Q∧Below w.heap.size w w'
set_option maxHeartbeats 400000 in
theorem divWord_any (A:Option Addr) (n c:Nat) (x:Nat→Nat) (y:Nat) (w:World) (ha:Sl w A n c x) (hn:n≤1000000) (hn0:0 < n) (hy:0 < y)
 (hD:Hid (∀ (hi lo:Nat) (w:World),hi < y→lo < B64→(n=1→hi=0)→Calls Tryz.prog 199 #[.int .u64 (hi:Int),.int .u64 (lo:Int),.int .u64 (y:Int)] w (PairPost w ((hi*B64+lo)/y) ((hi*B64+lo)%y)))) :
 Calls Tryz.prog 195 #[.slice A n c,.int .u64 (y:Int)] w (WordPost w (vs B64 x n/y) (vs B64 x n%y)):=by
 have hmk:∀ u:World,(Instr.makeSlice 22 (.int .i64 (n:Int)) (.int .i64 (n:Int))).run Tryz.prog u =
  .ok (.slice (some ⟨u.heap.size,0,none⟩) n n) (u.alloc (.cells (madeCells #[.int .u64 0] n) 51)):=fun u=>make_run n (by omega) u
 have h00:DivInv 51 w (w.alloc (.cells (madeCells #[.int .u64 0] n) 51)) w.heap.size n y x n 0 :=
  ⟨_,Row.made 51 w n,(Below.refl _ w).alloc (Nat.le_refl _) _,hy,fun _=>rfl,by rw [Nat.sub_self];simp [vs_zero]⟩
 go_enter Tryz.func195,Tryz.ntmps195
 go_wp2_with fail
 go_loopw [5,6] (fun s5 s6 wr=>∃ k r:Nat,k≤n∧s6=.int .i64 ((k:Int)-1)∧s5=.int .u64 (r:Int)∧DivInv 51 w wr w.heap.size n y x k r) (fun _ s6 _=>(intOf s6+1).toNat)
 case atStart=>exact ⟨n,0,Nat.le_refl _,rfl,rfl,h00⟩
 case round =>
  clear h00 hmk
  obtain ⟨k,r,hk,rfl,rfl,F,hrow,hb,hr,hr0,hv⟩:=hrel
  have HR:=Lib.hid hr0
  have HV:=Lib.hid hv
  clear hr0 hv
  rcases k with _ | k
  · go_wp2_with fail
    refine (view_raw _ n n _ wr (hrow.sl0 n n (Nat.le_refl _) (Nat.le_refl _)) (by omega)).mono ?_
    rintro e w5 ⟨rfl,rfl⟩
    go_wp2_with fail
    go_ret2
    have hnum:=viewV_num (hrow.sl0 n n (Nat.le_refl _) (Nat.le_refl _))
    have hv:=HV.out
    simp only [Nat.zero_add,Nat.sub_zero] at hv
    have e1:vs B64 x n/y=vs B64 F n:=by rw [hv,Nat.add_comm,Nat.add_mul_div_right _ _ hy,Nat.div_eq_of_lt hr,Nat.zero_add]
    have e2:vs B64 x n%y=r:=by rw [hv,Nat.add_comm,Nat.add_mul_mod_self_right,Nat.mod_eq_of_lt hr]
    refine ⟨_,?_,by rw [e1];exact hnum,hb⟩
    rw [e2];rfl
  · obtain ⟨ad,rfl,hb1,hx64,hcell⟩:=(ha.below hb).at_ (k:=k) (by omega)
    rw [show (((k+1:Nat):Int)-1)=(k:Int) from by omega]
    go_wp2_with fail
    refine (hD.out r (x k) wr hr hx64 (fun h=>HR.out (by omega))).mono ?_
    rintro e w1 ⟨rfl,kk,hw1⟩
    have hb2:Below wr.heap.size wr w1:=by rw [hw1];exact below_drewN (Below.refl _ _) kk
    clear hw1
    have hrc:=(hrow.below hb2 hrow.lt).cell (i:=k) (by omega)
    have hrf:=(hrow.below hb2 hrow.lt).frozen k
    have hstep:=Lib.hid (DivInv.step (by omega:k < n) rfl hrow hb hr HV.out hx64 hb2)
    generalize (r*B64+x k)/y=q at *
    generalize (r*B64+x k)%y=r' at *
    go_wp2_with fail
    go_roundw
    case rel=>exact ⟨k,r',by omega,by go_num,rfl,hstep.out⟩
    case measure=>simp [intOf]
end Go.Proofs.YtmbmohibpkepdaaGreatDoor
namespace Go.Proofs.YtmbmohibpkepdaaGreatDoor
open Go.RowKit
theorem mul_step {x y s c H L l1 o1 h1 d1 r o2 c' d2:Nat} (hx:x < B64) (hy:y < B64) (hs:s < B64) (hc:c < B64) (hp:H*B64+L=x*y) (e1:l1+o1*B64=L+s+0) (e2:h1+d1*B64=H+0+o1)
 (e3:r+o2*B64=l1+c+0) (e4:c'+d2*B64=h1+0+o2):r+c'*B64=s+x*y+c:=by
 have hB:=B64_pos
 have ht:x*y≤(B64-1)*(B64-1):=Nat.mul_le_mul (by omega) (by omega)
 have hsq:(B64-1)*(B64-1)+2*B64=B64*B64+1:=by
  obtain ⟨k,hk⟩:∃ k,B64=k+1:=⟨B64-1,by omega⟩
  rw [hk];simp only [Nat.add_sub_cancel,Nat.add_mul,Nat.mul_add];omega
 have h0:(H+o1+o2)*B64+r=s+x*y+c:=by rw [Nat.add_mul,Nat.add_mul];omega
 have hlt:H+o1+o2 < B64:=by
  rcases Nat.lt_or_ge (H+o1+o2) B64 with h | h
  · exact h
  · have h5:B64*B64≤(H+o1+o2)*B64:=Nat.mul_le_mul_right _ h
    omega
 have z1:d1=0:=by
  rcases Nat.eq_zero_or_pos d1 with h | h
  · exact h
  · have:1*B64≤d1*B64:=Nat.mul_le_mul_right _ h
    omega
 subst z1
 have z2:d2=0:=by
  rcases Nat.eq_zero_or_pos d2 with h | h
  · exact h
  · have:1*B64≤d2*B64:=Nat.mul_le_mul_right _ h
    omega
 subst z2
 have e5:c'=H+o1+o2:=by omega
 rw [e5];omega
theorem mul64_run (x y:Nat) (hx:x < B64) (hy:y < B64) (w:World) :
 ∃ H L:Nat,H*B64+L=x*y∧H < B64∧L < B64∧Calls Tryz.prog 178 #[.int .u64 x,.int .u64 y] w fun e w'=>e=.returned (.tuple #[.int .u64 (H:Int),.int .u64 (L:Int)])∧w'=w:=by
 refine ⟨x*y/18446744073709551616,x*y%18446744073709551616,?_,?_,?_,Tryz.bits_Mul64 x y hx hy w⟩
 · unfold B64;omega
 · unfold B64 at *
   exact Nat.div_lt_of_lt_mul (Nat.mul_lt_mul'' hx hy)
 · unfold B64;omega
def TimesPost (t:TypeId) (w:World) (g N off:Nat) (F:Nat→Nat) (y:Nat→Nat) (m x:Nat) (e:Ending) (w':World):Prop :=
 ∃ F' d,e=.returned (.int .u64 ((d:Nat):Int))∧AddInv t (B64-1) w w' g N off F F' (fun j=>x*y j) m m d
set_option maxHeartbeats 1000000 in
theorem addTimes_any (g off n c N:Nat) (F:Nat→Nat) (A:Option Addr) (m cb:Nat) (y:Nat→Nat) (x:Nat) (w:World) (hr:Row 51 w g N F) (hoff:off+m≤N) (hN:N≤1000000) (hcap:n≤c)
 (hy:Sl w A m cb y) (hmn:m≤n) (hne:0 < m→∀ ad,A=some ad→ad.block≠g) (hx:x < B64) :
 Calls Tryz.prog 147 #[.slice (some ⟨g,off,none⟩) n c,.slice A m cb,.int .u64 (x:Int)] w (TimesPost 51 w g N off F y m x):=by
 go_enter Tryz.func147,Tryz.ntmps147
 go_wp2
 go_loopw [7,19] (fun cy i wr=>∃ k d F',k≤m∧i=.int .i64 ((k:Nat):Int)∧cy=.int .u64 ((d:Nat):Int)∧AddInv 51 (B64-1) w wr g N off F F' (fun j=>x*y j) m k d) (fun _ i _=>m-(intOf i).toNat)
 case atStart=>exact ⟨0,0,F,Nat.zero_le _,rfl,rfl,AddInv.start hr⟩
 case round =>
  obtain ⟨k,d,F',hk,rfl,rfl,hinv⟩:=hrel
  by_cases hlt:k < m
  · obtain ⟨ad,rfl,hb,hy64,hcell⟩:=(hy.only hinv.2.2.1 hne).at_ hlt
    have hrc:=hinv.2.1.cell (i:=off+k) (by omega)
    have hrf:=hinv.2.1.frozen (off+k)
    have hF:Hid (F' (off+k)=F (off+k)):=hinv.2.2.2.1 _ (by omega)
    have hFs:=hinv.2.1.2 (off+k) (by omega)
    have hd64:d < B64:=by have:=hinv.1;have:=B64_pos;omega
    obtain ⟨H,L,hp,hH,hL,hmul⟩:=mul64_run x (y k) hx hy64 wr
    obtain ⟨l1,o1,e1,g1,g1',a1⟩:=add64_run L (F' (off+k)) 0 (by omega) wr
    have ho1:=g1' hL hFs
    obtain ⟨h1,d1,e2,g2,g2',a2⟩:=add64_run H 0 o1 ho1 wr
    obtain ⟨r,o2,e3,g3,g3',a3⟩:=add64_run l1 d 0 (by omega) wr
    have ho2:=g3' g1 hd64
    obtain ⟨c',d2,e4,g4,g4',a4⟩:=add64_run h1 0 o2 ho2 (wr.setCell ⟨g,off+k,none⟩ (.int .u64 (r:Int)))
    rw [show ((0:Nat):Int)=0 from rfl] at a1 a2 a3 a4
    have key:Hid (r+c'*B64=F' (off+k)+x*y k+d):=Lib.hid (mul_step hx hy64 hFs hd64 hp e1 e2 e3 e4)
    have HM:=Lib.hid hmul
    clear hp e1 e2 e3 e4 g1' g2' g3' g4' hmul
    go_wp2_with fail
    refine HM.out.mono ?_
    rintro e w' ⟨rfl,rfl⟩
    go_wp2_with fail
    go_roundw
    case rel=>exact ⟨k+1,c',upd F' (off+k) r,by omega,by go_num,rfl,hinv.step (by rw [← hF.out,if_pos hlt];exact key.out) g3 (by omega)⟩
    case measure=>simp [intOf];omega
  · obtain rfl:k=m:=by omega
    go_wp2
    go_ret
    exact ⟨F',d,rfl,hinv⟩
end Go.Proofs.YtmbmohibpkepdaaGreatDoor
namespace Go.Proofs.YtmbmohibpkepdaaGreatDoor
open Go.RowKit
theorem sub_times_step {x y s c H L l1 o1 h1 d1 r o2 c' d2:Nat} (hx:x < B64) (hy:y < B64) (hc:c < B64) (hr:r < B64) (hp:H*B64+L=x*y) (e1:l1+o1*B64=L+c+0) (e2:h1+d1*B64=H+0+o1)
 (e3:r+(l1+0)=s+o2*B64) (e4:c'+d2*B64=h1+0+o2):r+(x*y+c)=s+c'*B64:=by
 have hB:=B64_pos
 have ht:x*y≤(B64-1)*(B64-1):=Nat.mul_le_mul (by omega) (by omega)
 have hsq:(B64-1)*(B64-1)+2*B64=B64*B64+1:=by
  obtain ⟨k,hk⟩:∃ k,B64=k+1:=⟨B64-1,by omega⟩
  rw [hk];simp only [Nat.add_sub_cancel,Nat.add_mul,Nat.mul_add];omega
 have h0:s+(H+o1+o2)*B64=r+(x*y+c):=by rw [Nat.add_mul,Nat.add_mul];omega
 have hlt:H+o1+o2 < B64:=by
  rcases Nat.lt_or_ge (H+o1+o2) B64 with h | h
  · exact h
  · have h5:B64*B64≤(H+o1+o2)*B64:=Nat.mul_le_mul_right _ h
    omega
 have z1:d1=0:=by
  rcases Nat.eq_zero_or_pos d1 with h | h
  · exact h
  · have:1*B64≤d1*B64:=Nat.mul_le_mul_right _ h
    omega
 subst z1
 have z2:d2=0:=by
  rcases Nat.eq_zero_or_pos d2 with h | h
  · exact h
  · have:1*B64≤d2*B64:=Nat.mul_le_mul_right _ h
    omega
 subst z2
 have e5:c'=H+o1+o2:=by omega
 rw [e5];omega
def SubTimesPost (t:TypeId) (w:World) (g N off:Nat) (F:Nat→Nat) (y:Nat→Nat) (m x:Nat) (e:Ending) (w':World):Prop :=
 ∃ F' d,e=.returned (.int .u64 ((d:Nat):Int))∧SubInv t (B64-1) w w' g N off F F' (fun j=>x*y j) m m d
set_option maxHeartbeats 1000000 in
theorem subTimes_any (g off n c N:Nat) (F:Nat→Nat) (A:Option Addr) (m cb:Nat) (y:Nat→Nat) (x:Nat) (w:World) (hr:Row 51 w g N F) (hoff:off+m≤N) (hN:N≤1000000) (hcap:n≤c)
 (hy:Sl w A m cb y) (hmn:m≤n) (hne:0 < m→∀ ad,A=some ad→ad.block≠g) (hx:x < B64) :
 Calls Tryz.prog 202 #[.slice (some ⟨g,off,none⟩) n c,.slice A m cb,.int .u64 (x:Int)] w (SubTimesPost 51 w g N off F y m x):=by
 go_enter Tryz.func202,Tryz.ntmps202
 go_wp2
 go_loopw [7,19] (fun cy i wr=>∃ k d F',k≤m∧i=.int .i64 ((k:Nat):Int)∧cy=.int .u64 ((d:Nat):Int)∧SubInv 51 (B64-1) w wr g N off F F' (fun j=>x*y j) m k d) (fun _ i _=>m-(intOf i).toNat)
 case atStart=>exact ⟨0,0,F,Nat.zero_le _,rfl,rfl,SubInv.start hr⟩
 case round =>
  obtain ⟨k,d,F',hk,rfl,rfl,hinv⟩:=hrel
  by_cases hlt:k < m
  · obtain ⟨ad,rfl,hb,hy64,hcell⟩:=(hy.only hinv.2.2.1 hne).at_ hlt
    have hrc:=hinv.2.1.cell (i:=off+k) (by omega)
    have hrf:=hinv.2.1.frozen (off+k)
    have hF:Hid (F' (off+k)=F (off+k)):=hinv.2.2.2.1 _ (by omega)
    have hFs:=hinv.2.1.2 (off+k) (by omega)
    have hd64:d < B64:=by have:=hinv.1;have:=B64_pos;omega
    obtain ⟨H,L,hp,hH,hL,hmul⟩:=mul64_run x (y k) hx hy64 wr
    obtain ⟨l1,o1,e1,g1,g1',a1⟩:=add64_run L d 0 (by omega) wr
    have ho1:=g1' hL hd64
    obtain ⟨h1,d1,e2,g2,g2',a2⟩:=add64_run H 0 o1 ho1 wr
    obtain ⟨r,o2,e3,g3,g3',a3⟩:=sub64_run (F' (off+k)) l1 0 hFs g1 (by omega) wr
    obtain ⟨c',d2,e4,g4,g4',a4⟩:=add64_run h1 0 o2 g3' (wr.setCell ⟨g,off+k,none⟩ (.int .u64 (r:Int)))
    rw [show ((0:Nat):Int)=0 from rfl] at a1 a2 a3 a4
    have key:Hid (r+(x*y k+d)=F' (off+k)+c'*B64):=Lib.hid (sub_times_step hx hy64 hd64 g3 hp e1 e2 e3 e4)
    have HM:=Lib.hid hmul
    clear hp e1 e2 e3 e4 g1' g2' g4' hmul
    go_wp2_with fail
    refine HM.out.mono ?_
    rintro e w' ⟨rfl,rfl⟩
    go_wp2_with fail
    go_roundw
    case rel=>exact ⟨k+1,c',upd F' (off+k) r,by omega,by go_num,rfl,hinv.step (by rw [← hF.out,if_pos hlt];exact key.out) g3 (by omega)⟩
    case measure=>simp [intOf];omega
  · obtain rfl:k=m:=by omega
    go_wp2
    go_ret
    exact ⟨F',d,rfl,hinv⟩
end Go.Proofs.YtmbmohibpkepdaaGreatDoor
namespace Go.Proofs.YtmbmohibpkepdaaGreatDoor
open Go.RowKit
def MulInv (t:TypeId) (w wr:World) (g N q:Nat) (x y:Nat→Nat) (i:Nat):Prop :=
 ∃ F,Row t wr g N F∧Below g w wr∧vs B64 F (i+q)=vs B64 x i*vs B64 y q∧∀ j,i+q≤j→j < N→F j=0
theorem mul_round {t:TypeId} {w wr w3:World} {g N q i xi cy:Nat} {F F' x y:Nat→Nat} (hxi:x i=xi) (hb:Below g w wr) (hg:g < wr.heap.size)
 (hv:vs B64 F (i+q)=vs B64 x i*vs B64 y q) (hz:∀ j,i+q≤j→j < N→F j=0) (h:AddInv t (B64-1) wr w3 g N i F F' (fun j=>xi*y j) q q cy) :
 MulInv t w (w3.setCell ⟨g,i+q,none⟩ (.int .u64 ((cy:Nat):Int))) g N q x y (i+1):=by
 obtain ⟨h1,h2,h3,h4,h5⟩:=h
 have hcy:cy < B64:=by have:=B64_pos;omega
 refine ⟨upd F' (i+q) cy,h2.set_ _ _ hcy,(Only.below hb h3 (by omega) (Nat.le_refl _)).setCell (Nat.le_refl _) _,?_,fun j hj hjN=>?_⟩
 · have e1:i+1+q=i+q+1:=by omega
   rw [e1,vs_succ,upd_same,vs_upd_ge _ _ _ _ _ (Nat.le_refl _),vs_add,vs_succ,hxi,Nat.add_mul,← hv,vs_add B64 F]
   have e2:vs B64 F' i=vs B64 F i:=vs_congr fun j hj=>h4 j (by omega)
   rw [vs_pad _ _ _ _ (Nat.le_refl _),vs_mul] at h5
   have e3:B64^i*(vs B64 (fun j=>F' (i+j)) q+cy*B64^q)=B64^i*(vs B64 (fun j=>F (i+j)) q+xi*vs B64 y q):=by rw [h5]
   rw [Nat.mul_add,Nat.mul_add] at e3
   have e4:cy*B64^(i+q)=B64^i*(cy*B64^q):=by rw [Nat.pow_add];ac_rfl
   have e5:xi*B64^i*vs B64 y q=B64^i*(xi*vs B64 y q):=by ac_rfl
   omega
 · rw [upd_other _ _ _ _ (by omega),h4 j (by omega)];exact hz j (by omega) hjN
set_option maxHeartbeats 1000000 in
theorem mul_core (A B:Option Addr) (p q c d:Nat) (x y:Nat→Nat) (w:World) (s1:Sl w A p c x) (s2:Sl w B q d y) (hp:p≤q) (hq:q≤400000) (A0 B0:Option Addr) (n m c0 d0:Nat)
 (sw:Bool)
 (H1:Hid (Calls Tryz.prog 132 #[.slice A0 n c0] w fun e w'=>e=.returned (if sw then .slice B q d else .slice A p c)∧w=w'))
 (H2:Hid (Calls Tryz.prog 132 #[.slice B0 m d0] w fun e w'=>e=.returned (if sw then .slice A p c else .slice B q d)∧w=w')) (hsw:sw=true→p < q) :
 Calls Tryz.prog 80 #[.slice A0 n c0,.slice B0 m d0] w (NumPost w (vs B64 x p*vs B64 y q)):=by
 have hmk:∀ u:World,(Instr.makeSlice 22 (.int .i64 ((p:Int)+(q:Int))) (.int .i64 ((p:Int)+(q:Int)))).run Tryz.prog u =
  .ok (.slice (some ⟨u.heap.size,0,none⟩) (p+q) (p+q)) (u.alloc (.cells (madeCells #[.int .u64 0] (p+q)) 51)):=fun u=>by
  have h:=make_run (p+q) (by omega) u
  rw [Int.natCast_add] at h
  exact h
 have hrow:=Row.made 51 w (p+q)
 have h00:MulInv 51 w (w.alloc (.cells (madeCells #[.int .u64 0] (p+q)) 51)) w.heap.size (p+q) q x y 0 :=
  ⟨_,hrow,(Below.refl _ w).alloc (Nat.le_refl _) _,by
   rw [vs_zero,Nat.zero_mul,Nat.zero_add]
   have:∀ k,vs B64 (fun _=>0) k=0:=fun k=>by induction k with | zero=>rfl | succ k ih=>rw [vs_succ,ih];simp
   exact this q,fun _ _ _=>rfl⟩
 generalize hN:p+q=N at *
 have HN:=Lib.hid hN
 have hN1:p+q≤N:=by omega
 have hN2:N≤p+q:=by omega
 clear hN hrow
 cases sw
 · have hlt:¬ q < p:=by omega
   simp only [Bool.false_eq_true,if_false] at H1 H2
   clear hsw
   go_enter Tryz.func80,Tryz.ntmps80
   go_wp2_with fail
   refine H1.out.mono ?_
   rintro e w' ⟨rfl,rfl⟩
   go_wp2_with fail
   refine H2.out.mono ?_
   rintro e w' ⟨rfl,rfl⟩
   go_wp2_with fail
   go_loopw [28] (fun i wr=>∃ k:Nat,k≤p∧i=.int .i64 ((k:Nat):Int)∧MulInv 51 w wr w.heap.size N q x y k) (fun i _=>p-(intOf i).toNat)
   case atStart=>exact ⟨0,Nat.zero_le _,rfl,h00⟩
   case round =>
    obtain ⟨k,hk,rfl,F,hrow,hbw,hv,hz⟩:=hrel
    have hv':=Lib.hid hv
    have hz':=Lib.hid hz
    clear hv hz h00
    by_cases hlt2:k < p
    · obtain ⟨ad,rfl,hb,hx64,hcell⟩:=(s1.below hbw).at_ hlt2
      go_wp2_with fail
      refine (addTimes_any w.heap.size k q (N-k) N F B q d y (x k) wr hrow (by omega) (by omega) (by omega) (s2.below hbw) (Nat.le_refl _) (s2.far (Nat.le_refl _)) hx64).mono ?_
      rintro e w3 ⟨F',cy,rfl,hinv⟩
      have hrc:=hinv.2.1.cell (i:=k+q) (by omega)
      have hrf:=hinv.2.1.frozen (k+q)
      go_wp2_with fail
      go_roundw
      case rel=>exact ⟨k+1,by omega,by go_num,mul_round rfl hbw hrow.lt hv'.out hz'.out hinv⟩
      case measure=>simp [intOf];omega
    · obtain rfl:k=p:=by omega
      go_wp2_with fail
      refine (view_raw _ N N _ wr (hrow.sl0 N N (Nat.le_refl _) (Nat.le_refl _)) (by omega)).mono ?_
      rintro e w5 ⟨rfl,rfl⟩
      go_wp2_with fail
      go_ret
      have hnum:=viewV_num (hrow.sl0 N N (Nat.le_refl _) (Nat.le_refl _))
      rw [← HN.out,hv'.out,HN.out] at hnum
      exact ⟨_,rfl,hnum,hbw⟩
 · have hlt:p < q:=hsw rfl
   simp only [if_true] at H1 H2
   clear hsw
   go_enter Tryz.func80,Tryz.ntmps80
   go_wp2_with fail
   refine H1.out.mono ?_
   rintro e w' ⟨rfl,rfl⟩
   go_wp2_with fail
   refine H2.out.mono ?_
   rintro e w' ⟨rfl,rfl⟩
   go_wp2_with fail
   go_loopw [28] (fun i wr=>∃ k:Nat,k≤p∧i=.int .i64 ((k:Nat):Int)∧MulInv 51 w wr w.heap.size N q x y k) (fun i _=>p-(intOf i).toNat)
   case atStart=>exact ⟨0,Nat.zero_le _,rfl,h00⟩
   case round =>
    obtain ⟨k,hk,rfl,F,hrow,hbw,hv,hz⟩:=hrel
    have hv':=Lib.hid hv
    have hz':=Lib.hid hz
    clear hv hz h00
    by_cases hlt2:k < p
    · obtain ⟨ad,rfl,hb,hx64,hcell⟩:=(s1.below hbw).at_ hlt2
      go_wp2_with fail
      refine (addTimes_any w.heap.size k q (N-k) N F B q d y (x k) wr hrow (by omega) (by omega) (by omega) (s2.below hbw) (Nat.le_refl _) (s2.far (Nat.le_refl _)) hx64).mono ?_
      rintro e w3 ⟨F',cy,rfl,hinv⟩
      have hrc:=hinv.2.1.cell (i:=k+q) (by omega)
      have hrf:=hinv.2.1.frozen (k+q)
      go_wp2_with fail
      go_roundw
      case rel=>exact ⟨k+1,by omega,by go_num,mul_round rfl hbw hrow.lt hv'.out hz'.out hinv⟩
      case measure=>simp [intOf];omega
    · obtain rfl:k=p:=by omega
      go_wp2_with fail
      refine (view_raw _ N N _ wr (hrow.sl0 N N (Nat.le_refl _) (Nat.le_refl _)) (by omega)).mono ?_
      rintro e w5 ⟨rfl,rfl⟩
      go_wp2_with fail
      go_ret
      have hnum:=viewV_num (hrow.sl0 N N (Nat.le_refl _) (Nat.le_refl _))
      rw [← HN.out,hv'.out,HN.out] at hnum
      exact ⟨_,rfl,hnum,hbw⟩
set_option maxHeartbeats 400000 in
theorem mul_any (A B:Option Addr) (n m c d:Nat) (x y:Nat→Nat) (w:World) (ha:Sl w A n c x) (hb:Sl w B m d y) (hn:n≤400000) (hm:m≤400000) :
 Calls Tryz.prog 80 #[.slice A n c,.slice B m d] w (NumPost w (vs B64 x n*vs B64 y m)):=by
 obtain ⟨A1,c1,e1,s1⟩:=viewV_sl ha
 obtain ⟨B1,d1,e2,s2⟩:=viewV_sl hb
 have l1:=tl_le x n
 have l2:=tl_le y m
 have V1:=view_raw A n c x w ha (by omega)
 have V2:=view_raw B m d y w hb (by omega)
 rw [e1] at V1
 rw [e2] at V2
 rw [← vs_tl B64 x n,← vs_tl B64 y m]
 clear e1 e2
 generalize tl x n=p at *
 generalize tl y m=q at *
 by_cases h:p≤q
 · exact mul_core A1 B1 p q c1 d1 x y w s1 s2 h (by omega) A B n m c d false (Lib.hid V1) (Lib.hid V2) (fun h=>by cases h)
 · rw [Nat.mul_comm]
   exact mul_core B1 A1 q p d1 c1 y x w s2 s1 (by omega) (by omega) A B n m c d true (Lib.hid V1) (Lib.hid V2) (fun _=>by omega)
end Go.Proofs.YtmbmohibpkepdaaGreatDoor
