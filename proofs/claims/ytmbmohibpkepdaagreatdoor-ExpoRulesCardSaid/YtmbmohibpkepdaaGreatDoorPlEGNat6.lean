/-
 nat.divLong: quotient and rest by two words or more.
 nat.DivMod, for every two numbers.
 nat.rootWord, nat.join: the root of a word; two numbers as one.
 nat.root, nat.Sqrt: the root of a number, and what is left.
-/
import Derived.Deep.RegionWith
import Derived.Test.YtmbmohibpkepdaaGreatDoorPlEGNumbers
import Derived.Test.YtmbmohibpkepdaaGreatDoorPlEGNat1
import Derived.Test.YtmbmohibpkepdaaGreatDoorPlEGNat2
import Derived.Test.YtmbmohibpkepdaaGreatDoorPlEGNat3
import Derived.Test.YtmbmohibpkepdaaGreatDoorPlEGNat4
namespace Go.Proofs.YtmbmohibpkepdaaGreatDoor
open Go.RowKit
theorem top_norm {f:Nat→Nat} {m k V:Nat} (hf:∀ j,j < m→f j < B64) (hc:Cn m f) (hv:vs B64 f m=V) (h1:B64^(k+1)≤2*V) (h2:V < B64^(k+1)):m=k+1∧B64≤2*f k:=by
 have hB:=B64_pos
 have hm:m=k+1:=by
  have a:=cn_le B64_gt hc (by rw [hv];exact h2)
  rcases Nat.lt_or_ge m (k+1) with h | h
  · have b:=vs_lt hf
    have c:B64^m≤B64^k:=Nat.pow_le_pow_right hB (by omega)
    have d:B64^k*2≤B64^k*B64:=Nat.mul_le_mul_left _ B64_gt
    rw [Nat.pow_succ] at h1
    omega
  · omega
 subst hm
 refine ⟨rfl,?_⟩
 rw [vs_succ] at hv
 have hlow:=vs_lt (fun j hj=>hf j (by omega):∀ j,j < k→f j < B64)
 rcases Nat.lt_or_ge (2*f k) B64 with h | h
 · have h3:(2*f k+2)*B64^k≤B64*B64^k:=by
    apply Nat.mul_le_mul_right
    have:B64%2=0:=by unfold B64;decide
    omega
   rw [Nat.pow_succ,Nat.mul_comm] at h1
   rw [Nat.add_mul,Nat.mul_assoc] at h3
   omega
 · exact h
def LongInv (t:TypeId) (w1 wr:World) (g1 g2 N n m V X k:Nat):Prop :=
 ∃ L F,Row t wr g1 N L∧Row t wr g2 m F∧Below g1 w1 wr∧(∀ j,k+n≤j→j < N→L j=0)∧vs B64 L (k+n) < V*B64^k∧X=vs B64 (fun j=>F (k+j)) (m-k)*(B64^k*V)+vs B64 L (k+n)
theorem long_lt {L:Nat→Nat} {i n V:Nat} (h:vs B64 L (i+1+n) < V*B64^(i+1)):vs B64 (fun j=>L (i+j)) (n+1) < V*B64:=by
 rw [show i+1+n=i+(n+1) by omega,vs_add,Nat.pow_succ] at h
 have h1:B64^i*vs B64 (fun j=>L (i+j)) (n+1) < B64^i*(V*B64):=by
  rw [show B64^i*(V*B64)=V*(B64^i*B64) by ac_rfl];omega
 exact Nat.lt_of_mul_lt_mul_left h1
theorem LongInv.step {t:TypeId} {w1 wr w':World} {g1 g2 N n m V X i q:Nat} {L L' F:Nat→Nat} (him:i < m) (hN:i+n < N) (hL:∀ j,j < N→L j < B64) (hrowL:Row t w' g1 N L') (hrowF:Row t wr g2 m F) (hon:Only wr w' g1) (hne:g1≠g2) (hg:g1≤g2) (hb:Below g1 w1 wr) (hgw:g1≤wr.heap.size)
 (hz:∀ j,i+1+n≤j→j < N→L j=0) (hX:X=vs B64 (fun j=>F (i+1+j)) (m-(i+1))*(B64^(i+1)*V)+vs B64 L (i+1+n))
 (hq:q < B64) (hag:∀ j,j < i∨i+n+1≤j→L' j=L j) (hz':L' (i+n)=0) (hZ:vs B64 (fun j=>L (i+j)) (n+1)=q*V+vs B64 (fun j=>L' (i+j)) n) (hR:vs B64 (fun j=>L' (i+j)) n < V) :
 LongInv t w1 (w'.setCell ⟨g2,i,none⟩ (.int .u64 ((q:Nat):Int))) g1 g2 N n m V X i:=by
 refine ⟨L',upd F i q,hrowL.of_block (Below.heap_setCell w' _ _ g1 hne),(hrowF.other hon (fun e=>hne e.symm)).set_ i q hq,(Only.below hb hon hgw (Nat.le_refl _)).setCell hg _,fun j hj hjN=>?_,?_,?_⟩
 · rcases Nat.lt_or_ge j (i+n+1) with h | h
   · rw [show j=i+n by omega];exact hz'
   · rw [hag j (by omega)];exact hz j (by omega) hjN
 · rw [vs_add]
   have e1:vs B64 L' i=vs B64 L i:=vs_congr fun j hj=>hag j (by omega)
   have h1:=vs_lt (fun j hj=>hL j (by omega):∀ j,j < i→L j < B64)
   rw [e1]
   generalize vs B64 (fun j=>L' (i+j)) n=R at *
   have h2:B64^i*(R+1)≤B64^i*V:=Nat.mul_le_mul_left _ hR
   rw [Nat.mul_add,Nat.mul_one] at h2
   rw [Nat.mul_comm V]
   omega
 · rw [vs_add B64 L']
   have e1:vs B64 L' i=vs B64 L i:=vs_congr fun j hj=>hag j (by omega)
   rw [hX,show i+1+n=i+(n+1) by omega,vs_add B64 L,hZ,e1]
   obtain ⟨r,hr⟩:∃ r,m-i=r+1:=⟨m-i-1,by omega⟩
   rw [hr,vs_cons,show m-(i+1)=r by omega]
   have e2:vs B64 (fun j=>upd F i q (i+(j+1))) r=vs B64 (fun j=>F (i+1+j)) r:=vs_congr fun j _=>by rw [upd_other _ _ _ _ (by omega)];congr 1;omega
   rw [e2]
   simp only [Nat.add_zero]
   rw [upd_same]
   generalize vs B64 (fun j=>F (i+1+j)) r=Q at *
   generalize vs B64 (fun j=>L' (i+j)) n=R at *
   generalize vs B64 L i=S at *
   rw [Nat.add_mul,Nat.mul_add,Nat.pow_succ]
   have e3:Q*(B64^i*B64*V)=B64*Q*(B64^i*V):=by ac_rfl
   have e4:B64^i*(q*V)=q*(B64^i*V):=by ac_rfl
   rw [e3,e4]
   omega
theorem vs_above {b:Nat} {L:Nat→Nat} {n N:Nat} (h:∀ j,n≤j→j < N→L j=0) (hn:n≤N):vs b L N=vs b L n:=by
 obtain ⟨i,rfl⟩:=Nat.exists_eq_add_of_le hn
 clear hn
 induction i with
 | zero=>rfl
 | succ i ih =>
  rw [← Nat.add_assoc,vs_succ,ih (fun j h1 h2=>h j h1 (by omega)),h (n+i) (by omega) (by omega),Nat.zero_mul,Nat.add_zero]
theorem long_zero {b X m V n:Nat} {F L:Nat→Nat} (h:X=vs b (fun j=>F (0+j)) (m-0)*(b^0*V)+vs b L (0+n)) (hl:vs b L (0+n) < V*b^0):X=vs b F m*V+vs b L n∧vs b L n < V:=by
 rw [Nat.zero_add] at h hl
 rw [Nat.pow_zero,Nat.mul_one] at hl
 rw [Nat.pow_zero,Nat.one_mul,Nat.sub_zero,vs_congr (g:=F) fun j _=>by rw [Nat.zero_add]] at h
 exact ⟨h,hl⟩
def LongPost (w:World) (Q R:Nat) (e:Ending) (w':World):Prop:=∃ v u,e=.returned (.tuple #[v,u])∧Num w' v Q∧Num w' u R∧Below w.heap.size w w'
theorem long_end {X Xa Y s Q R:Nat} (hX:X=Xa*2^s) (h:X=Q*(Y*2^s)+R) (hR:R < Y*2^s) (hY:0 < Y):Q=Xa/Y∧R/2^s=Xa%Y:=by
 have hp:0 < 2^s:=Nat.two_pow_pos s
 have hle:Q*Y≤Xa:=by
  have:Q*Y*2^s≤Xa*2^s:=by rw [← hX,h,Nat.mul_assoc];omega
  exact Nat.le_of_mul_le_mul_right this hp
 have e6:R=(Xa-Q*Y)*2^s:=by rw [Nat.sub_mul,← hX,h,Nat.mul_assoc];omega
 have e7:R/2^s=Xa-Q*Y:=by rw [e6,Nat.mul_div_cancel _ hp]
 have e8:Xa-Q*Y < Y:=by rw [e6] at hR;exact Nat.lt_of_mul_lt_mul_right hR
 have e9:Xa=Q*Y+(Xa-Q*Y):=by omega
 refine ⟨?_,?_⟩
 · rw [e9,Nat.add_comm,Nat.add_mul_div_right _ _ hY,Nat.div_eq_of_lt (by omega),Nat.zero_add]
 · rw [e7,e9,Nat.add_comm,Nat.add_mul_mod_self_right,Nat.mod_eq_of_lt (by omega)]
   omega
theorem shl_lt {V n s:Nat} (h:V < B64^n) (hs:s≤64):V*2^s < B64^(n+1):=by
 rw [Nat.pow_succ]
 exact Nat.mul_lt_mul_of_lt_of_le h (pow_le_B64 s hs) B64_pos
theorem norm_facts {y:Nat→Nat} {k s L:Nat} (hy:∀ j,j < k+2→y j < B64) (hL1:1≤L) (hL2:L≤64) (h1:2^(L-1)≤y (k+1)) (h2:y (k+1) < 2^L) (hs:s=64-L) :
 B64^(k+2)≤2*(vs B64 y (k+2)*2^s)∧vs B64 y (k+2)*2^s < B64^(k+2):=by
 have hlow:=vs_lt (fun j hj=>hy j (by omega):∀ j,j < k+1→y j < B64)
 have hB:=B64_pow
 rw [vs_succ]
 have hp:0 < 2^s:=Nat.two_pow_pos s
 have e64:B64=2^L*2^s:=by rw [← Nat.pow_add,hB];congr 1;omega
 have e63:B64=2*(2^(L-1)*2^s):=by rw [← Nat.pow_add,hB,show (64:Nat)=1+(L-1+s) by omega,Nat.pow_add]
 refine ⟨?_,?_⟩
 · have h3:2^(L-1)*2^s*B64^(k+1)≤y (k+1)*2^s*B64^(k+1):=Nat.mul_le_mul_right _ (Nat.mul_le_mul_right _ h1)
   have e1:B64^(k+2)=2*(2^(L-1)*2^s*B64^(k+1)):=by rw [Nat.pow_succ B64 (k+1),Nat.mul_comm,← Nat.mul_assoc,← e63]
   have e2:(vs B64 y (k+1)+y (k+1)*B64^(k+1))*2^s=vs B64 y (k+1)*2^s+y (k+1)*2^s*B64^(k+1):=by rw [Nat.add_mul];congr 1;ac_rfl
   rw [e1,e2];omega
 · have h3:(y (k+1)+1)*B64^(k+1)≤2^L*B64^(k+1):=Nat.mul_le_mul_right _ h2
   rw [Nat.add_mul,Nat.one_mul] at h3
   have h4:(vs B64 y (k+1)+y (k+1)*B64^(k+1))*2^s < 2^L*B64^(k+1)*2^s:=Nat.mul_lt_mul_of_pos_right (by omega) hp
   have e1:B64^(k+2)=2^L*B64^(k+1)*2^s:=by rw [Nat.pow_succ B64 (k+1),Nat.mul_comm,e64];ac_rfl
   rw [e1];exact h4
set_option maxHeartbeats 2000000 in
theorem divLong_any (A:Option Addr) (bd:Addr) (la k ca cb:Nat) (x y:Nat→Nat) (w:World) (ha:Sl w A la ca x) (hb:Sl w (some bd) (k+2) cb y) (hla:k+2≤la) (hla':la≤300000) (htop:0 < y (k+1)) :
 Calls Tryz.prog 196 #[.slice A la ca,.slice (some bd) (k+2) cb] w (LongPost w (vs B64 x la/vs B64 y (k+2)) (vs B64 x la%vs B64 y (k+2))):=by
 have hyB:=hb.small (k+1) (by omega)
 obtain ⟨_,e0,_,_,ctop⟩:=hb.at_ (k:=k+1) (by omega)
 injection e0 with e0
 subst e0
 rw [show bd.add (k+1)=⟨bd.block,bd.off+(k+1),none⟩ from by simp [Addr.add]] at ctop
 obtain ⟨l1,l2,l3,l4⟩:=len_bounds (y (k+1)) htop hyB
 have LZ:=Tryz.bits_LeadingZeros64 (y (k+1):Int) w (by omega) (by unfold B64 at hyB;omega)
 rw [Int.toNat_natCast] at LZ
 obtain ⟨n1,n2⟩:=norm_facts hb.small l1 l2 l3 l4 rfl
 generalize Lib.bitLen (y (k+1))=Lb at *
 obtain ⟨s,hs⟩:∃ s,s=64-Lb:=⟨_,rfl⟩
 rw [← hs] at n1 n2
 rw [show (64:Int)-(Lb:Int)=(s:Int) by omega] at LZ
 have hs63:s≤63:=by omega
 clear l1 l2 l3 l4 hs
 have HL:Hid (Calls Tryz.prog 191 #[.int .u64 (y (k+1):Int)] w fun e w'=>e=.returned (.int .i64 (s:Int))∧w=w'):=Lib.hid (LZ.mono fun e w' ⟨he,hw⟩=>⟨he,hw.symm⟩)
 have N1:=Lib.hid n1
 have N2:=Lib.hid n2
 clear LZ n1 n2
 have hYpos:Hid (0 < vs B64 y (k+2)):=Lib.hid (by
  rw [vs_succ]
  have:1*B64^(k+1)≤y (k+1)*B64^(k+1):=Nat.mul_le_mul_right _ htop
  have:=Nat.pow_pos (n:=k+1) B64_pos
  omega)
 have hXb:Hid (vs B64 x la*2^s < B64^(la+1)):=Lib.hid (shl_lt (vs_lt ha.small) (by omega))
 have hXV:Hid (vs B64 x la*2^s < vs B64 y (k+2)*2^s*B64^(la-(k+2)+1)):=Lib.hid (by
  have h1:=vs_lt ha.small
  have h2:=N1.out
  have h3:2^s*2≤B64:=by rw [B64_pow,← Nat.pow_succ];exact Nat.pow_le_pow_right (by omega) (by omega)
  have h4:vs B64 x la*(2^s*2) < B64^la*B64:=Nat.mul_lt_mul_of_lt_of_le h1 h3 B64_pos
  have h5:B64^(k+2)*B64^(la-(k+2)+1)≤2*(vs B64 y (k+2)*2^s)*B64^(la-(k+2)+1):=Nat.mul_le_mul_right _ h2
  rw [← Nat.pow_add,show k+2+(la-(k+2)+1)=la+1 by omega,Nat.pow_succ] at h5
  have e1:vs B64 x la*(2^s*2)=2*(vs B64 x la*2^s):=by ac_rfl
  have e2:2*(vs B64 y (k+2)*2^s)*B64^(la-(k+2)+1)=2*(vs B64 y (k+2)*2^s*B64^(la-(k+2)+1)):=by ac_rfl
  omega)
 go_enter Tryz.func196,Tryz.ntmps196
 go_wp2_with fail
 refine HL.out.mono ?_
 rintro e w' ⟨rfl,rfl⟩
 go_wp2_with fail
 refine (raise_any (some bd) (k+2) cb y s w hb (by omega) (by omega)).mono ?_
 rintro e w1 ⟨v,rfl,⟨A2,nn,c2,f2,rfl,sd,cd2,hv2⟩,b1⟩
 obtain ⟨hnn,htop2⟩:=top_norm (k:=k+1) sd.small cd2 hv2 N1.out N2.out
 obtain rfl:nn=k+2:=hnn
 obtain ⟨bd2,rfl,hbd2,_,_⟩:=sd.at_ (k:=0) (by omega)
 have HV:=Lib.hid hv2
 clear hv2 ctop HL
 have ha1:=ha.below b1
 have hmk1:∀ u:World,(Instr.makeSlice 22 (.int .i64 ((la:Int)+1)) (.int .i64 ((la:Int)+1))).run Tryz.prog u =
  .ok (.slice (some ⟨u.heap.size,0,none⟩) (la+1) (la+1)) (u.alloc (.cells (madeCells #[.int .u64 0] (la+1)) 51)):=fun u=>make_run (la+1) (by omega) u
 have hrow1:=Row.made 51 w1 (la+1)
 go_wp2_with fail
 refine (raise_any A la ca x s _ (ha1.alloc _) (by omega) (by omega)).mono ?_
 rintro e w2 ⟨v3,rfl,⟨A3,n3,c3,f3,rfl,s3,cn3,hv3⟩,b2⟩
 have hn3:n3≤la+1:=cn_le B64_gt cn3 (by rw [hv3];exact hXb.out)
 have HX:=Lib.hid hv3
 clear hv3 hmk1
 have hrow2:=hrow1.below b2 (by simp)
 have b2':Below w1.heap.size w1 w2:=((Below.refl _ w1).alloc (Nat.le_refl _) _).trans (b2.mono (by simp))
 obtain ⟨m,hm⟩:∃ m,m=la-(k+2)+1:=⟨_,rfl⟩
 rw [← hm] at hXV
 have hm1:m+(k+1)≤la:=by omega
 have hm2:la≤m+(k+1):=by omega
 clear hm
 have hmk2:∀ u:World,(Instr.makeSlice 22 (.int .i64 ((la:Int)-((k:Int)+2)+1)) (.int .i64 ((la:Int)-((k:Int)+2)+1))).run Tryz.prog u =
  .ok (.slice (some ⟨u.heap.size,0,none⟩) m m) (u.alloc (.cells (madeCells #[.int .u64 0] m) 51)):=fun u=>by
  have h:=make_run m (by omega) u
  rw [show (m:Int)=(la:Int)-((k:Int)+2)+1 by omega] at h
  exact h
 go_wp2_with (with_reducible refine wpList_copy_words rfl (.tmp 26) (.tmp 29) 22 rfl 51 Tryz.underlying22 size64 51 w1.heap.size (la+1) (la+1) (la+1) _ A3 n3 c3 f3 rfl rfl hrow2 (Nat.le_refl _) s3 hn3 ?_;intro w3 hrow3 hon3)
 clear hmk2
 have bw3:Below w1.heap.size w1 w3:=Only.below b2' hon3 b2'.size (Nat.le_refl _)
 have hlt13:w1.heap.size < w3.heap.size:=hrow3.lt
 have h00:LongInv 51 w1 (w3.alloc (.cells (madeCells #[.int .u64 0] m) 51)) w1.heap.size w3.heap.size (la+1) (k+2) m (vs B64 f2 (k+2)) (vs B64 x la*2^s) m:=by
  have e1:vs B64 (fun j=>if j < n3 then f3 j else 0) (la+1)=vs B64 x la*2^s:=by rw [vs_pad _ _ _ _ hn3];exact HX.out
  refine ⟨_,_,hrow3.alloc _,Row.made 51 w3 m,bw3.alloc bw3.size _,fun j h1 h2=>by omega,?_,?_⟩
  · rw [show m+(k+2)=la+1 by omega,e1,HV.out];exact hXV.out
  · rw [show m+(k+2)=la+1 by omega,e1,Nat.sub_self,vs_zero,Nat.zero_mul,Nat.zero_add]
 clear hrow3 hrow2 hrow1 hon3
 go_loopw [10] (fun s10 wr=>∃ i:Nat,i≤m∧s10=.int .i64 ((i:Int)-1)∧LongInv 51 w1 wr w1.heap.size w3.heap.size (la+1) (k+2) m (vs B64 f2 (k+2)) (vs B64 x la*2^s) i) (fun s10 _=>(intOf s10+1).toNat)
 case atStart=>exact ⟨m,Nat.le_refl _,rfl,h00⟩
 case round =>
  clear h00
  obtain ⟨i,hi,rfl,L,F,hrL,hrF,hbw,hz,hlt,hX⟩:=hrel
  have HZ:=Lib.hid hz
  have HX2:=Lib.hid hX
  have HLT:=Lib.hid hlt
  clear hz hX hlt
  rcases i with _ | i
  · go_wp2_with fail
    have hslF:=hrF.sl0 m m (Nat.le_refl _) (Nat.le_refl _)
    have hslL:=hrL.sl0 (la+1) (la+1) (Nat.le_refl _) (Nat.le_refl _)
    refine (view_raw _ m m _ wr hslF (by omega)).mono ?_
    rintro e w5 ⟨rfl,rfl⟩
    go_wp2_with fail
    refine (view_raw _ (la+1) (la+1) _ wr hslL (by omega)).mono ?_
    rintro e w5 ⟨rfl,rfl⟩
    obtain ⟨A7,c7,e7,s7⟩:=viewV_sl hslL
    have l7:=tl_le L (la+1)
    rw [e7]
    go_wp2_with fail
    refine (lower_any A7 _ c7 L s wr s7 (by omega) (by omega)).mono ?_
    rintro e w8 ⟨v8,rfl,n8,b8⟩
    have hq:=viewV_num hslF
    go_wp2_with fail
    go_ret2
    obtain ⟨h1,h2⟩:=long_zero HX2.out HLT.out
    rw [HV.out] at h1 h2
    obtain ⟨q1,q2⟩:=long_end rfl h1 h2 hYpos.out
    have e8:vs B64 L (la+1)=vs B64 L (k+2):=vs_above (fun j h1 h2=>HZ.out j (by omega) h2) (by omega)
    rw [vs_tl,e8,q2] at n8
    rw [q1] at hq
    exact ⟨_,v8,rfl,hq.below b8,n8,b1.trans ((hbw.trans (b8.mono hbw.size)).mono b1.size)⟩
  · rw [show (((i+1:Nat):Int)-1)=(i:Int) from by omega]
    have hci:¬ la+1=i:=by omega
    have sdw:=sd.below hbw
    go_wp2_with fail
    rw [show i+(k+2)+1-i=k+3 by omega]
    have hbd2':bd2.block≠w1.heap.size:=by omega
    refine (divStep_any w1.heap.size i k (la+1-i) (la+1) c2 L f2 bd2 wr hrL (by omega) (by omega) (by omega) sdw hbd2' htop2 (long_lt HLT.out)).mono ?_
    rintro e w6 ⟨q,L',rfl,hq,hrL',hon,hag,hz',hZ,hR⟩
    have hrF6:=hrF.other hon (by omega)
    have hrc:=hrF6.cell (i:=i) (by omega)
    have hrf:=hrF6.frozen i
    have hst:=Lib.hid (LongInv.step (n:=k+2) (by omega:i < m) (by omega) hrL.2 hrL' hrF hon (by omega) (by omega) hbw (Nat.le_of_lt hrL.lt) HZ.out HX2.out hq hag hz' hZ hR)
    clear hag hz' hZ hR
    go_wp2_with fail
    go_roundw
    case rel=>exact ⟨i,by omega,by go_num,hst.out⟩
    case measure=>simp [intOf]
end Go.Proofs.YtmbmohibpkepdaaGreatDoor
namespace Go.Proofs.YtmbmohibpkepdaaGreatDoor
open Go.RowKit
set_option maxHeartbeats 400000 in
theorem divmod_less (A B:Option Addr) (n m c d:Nat) (x y:Nat→Nat) (w:World) (ha:Sl w A n c x) (hb:Sl w B m d y) (hn:n≤1000000) (hm:m≤1000000) (hlt:vs B64 x n < vs B64 y m) :
 Calls Tryz.prog 183 #[.slice A n c,.slice B m d] w (QuoPost w (vs B64 x n/vs B64 y m) (vs B64 x n%vs B64 y m)):=by
 rw [Nat.div_eq_of_lt hlt,Nat.mod_eq_of_lt hlt]
 obtain ⟨A1,c1,e1,s1⟩:=viewV_sl ha
 obtain ⟨B1,d1,e2,s2⟩:=viewV_sl hb
 have l1:=tl_le x n
 have l2:=tl_le y m
 have V1:=view_raw A n c x w ha (by omega)
 have V2:=view_raw B m d y w hb (by omega)
 rw [e1] at V1
 rw [e2] at V2
 rw [← vs_tl B64 x n] at hlt ⊢
 rw [← vs_tl B64 y m] at hlt
 clear e1 e2
 generalize tl x n=p at *
 have hq0:0 < tl y m:=by
  rcases Nat.eq_zero_or_pos (tl y m) with h | h
  · rw [h,vs_zero] at hlt;omega
  · exact h
 generalize tl y m=q at *
 have V3:=cmp_any A1 B1 p q c1 d1 x y w s1 s2 (by omega) (by omega)
 rw [cmpN_lt hlt] at V3
 have H1:=Lib.hid V1
 have H2:=Lib.hid V2
 have H3:=Lib.hid V3
 have hqb:((q:Int) == 0)=false:=by simp;omega
 clear V1 V2 V3
 go_enter Tryz.func183,Tryz.ntmps183
 go_wp2_with fail
 refine H1.out.mono ?_
 rintro e w' ⟨rfl,rfl⟩
 go_wp2_with fail
 refine H2.out.mono ?_
 rintro e w' ⟨rfl,rfl⟩
 go_wp2_with fail
 refine H3.out.mono ?_
 rintro e w1 ⟨rfl,b1⟩
 go_wp2_with fail
 refine (trim_any A1 p c1 x w1 (s1.below b1) (by omega)).mono ?_
 rintro e w2 ⟨v,rfl,hnum,b2⟩
 go_wp2_with fail
 go_ret3
 exact ⟨_,v,rfl,⟨none,0,0,x,rfl,Sl.none_ _ _ _ _,.inl rfl,rfl⟩,hnum,b1.trans (b2.mono b1.size)⟩
set_option maxHeartbeats 400000 in
theorem divmod_long (A B:Option Addr) (n m c d:Nat) (x y:Nat→Nat) (w:World) (ha:Sl w A n c x) (hb:Sl w B m d y) (hn:n≤300000) (hm:m≤300000) (ht:2≤tl y m) (hle:vs B64 y m≤vs B64 x n) :
 Calls Tryz.prog 183 #[.slice A n c,.slice B m d] w (QuoPost w (vs B64 x n/vs B64 y m) (vs B64 x n%vs B64 y m)):=by
 obtain ⟨A1,c1,e1,s1⟩:=viewV_sl ha
 obtain ⟨B1,d1,e2,s2⟩:=viewV_sl hb
 have l1:=tl_le x n
 have V1:=view_raw A n c x w ha (by omega)
 have V2:=view_raw B m d y w hb (by omega)
 have l2:=tl_le y m
 have cy:=tl_cn y m
 rw [e1] at V1
 rw [e2] at V2
 rw [← vs_tl B64 x n,← vs_tl B64 y m] at hle ⊢
 clear e1 e2
 generalize tl x n=p at *
 generalize tl y m=q at *
 obtain ⟨k,rfl⟩:∃ k,q=k+2:=⟨q-2,by omega⟩
 have hqp:k+2≤p:=cn_le B64_gt cy (Nat.lt_of_le_of_lt hle (vs_lt s1.small))
 have htop:0 < y (k+1):=by
  rcases cy with h | h
  · omega
  · have:k+2-1=k+1:=by omega
    rw [this] at h;omega
 obtain ⟨bd,rfl,_,_,_⟩:=s2.at_ (k:=0) (by omega)
 have V3:=cmp_any A1 (some bd) p (k+2) c1 d1 x y w s1 s2 (by omega) (by omega)
 obtain ⟨r,hr0,hr1⟩:∃ r:Nat,cmpN (vs B64 x p) (vs B64 y (k+2))=(r:Int)∧r≤1:=by
  rcases Nat.lt_or_ge (vs B64 y (k+2)) (vs B64 x p) with h | h
  · exact ⟨1,by rw [cmpN_gt h];rfl,by omega⟩
  · exact ⟨0,by rw [Nat.le_antisymm h hle,cmpN_eq];rfl,by omega⟩
 rw [hr0] at V3
 clear hr0
 have H1:=Lib.hid V1
 have H2:=Lib.hid V2
 have H3:=Lib.hid V3
 clear V1 V2 V3 hle
 have L:Hid (∀ w1,Below w.heap.size w w1→Calls Tryz.prog 196 #[.slice A1 p c1,.slice (some bd) (k+2) d1] w1 (LongPost w1 (vs B64 x p/vs B64 y (k+2)) (vs B64 x p%vs B64 y (k+2)))) :=
  Lib.hid fun w1 b1=>divLong_any A1 bd p k c1 d1 x y w1 (s1.below b1) (s2.below b1) hqp (by omega) htop
 generalize vs B64 x p/vs B64 y (k+2)=Q at *
 generalize vs B64 x p%vs B64 y (k+2)=R at *
 have hk0:((k:Int)+2 == 0)=false:=by simp;omega
 have hk1:((k:Int)+2 == 1)=false:=by simp;omega
 go_enter Tryz.func183,Tryz.ntmps183
 go_wp2_with fail
 refine H1.out.mono ?_
 rintro e w' ⟨rfl,rfl⟩
 go_wp2_with fail
 refine H2.out.mono ?_
 rintro e w' ⟨rfl,rfl⟩
 go_wp2_with fail
 refine H3.out.mono ?_
 rintro e w1 ⟨rfl,b1⟩
 go_wp2_with fail
 refine (L.out w1 b1).mono ?_
 rintro e w2 ⟨v,u,rfl,n1,n2,b2⟩
 go_wp2_with fail
 go_ret3
 exact ⟨v,u,rfl,n1,n2,b1.trans (b2.mono b1.size)⟩
theorem divmod_any (A B:Option Addr) (n m c d:Nat) (x y:Nat→Nat) (w:World) (ha:Sl w A n c x) (hb:Sl w B m d y) (hn:n≤300000) (hm:m≤300000) (h0:0 < vs B64 y m) :
 Calls Tryz.prog 183 #[.slice A n c,.slice B m d] w (QuoPost w (vs B64 x n/vs B64 y m) (vs B64 x n%vs B64 y m)):=by
 rcases Nat.lt_or_ge (vs B64 x n) (vs B64 y m) with h | h
 · exact divmod_less A B n m c d x y w ha hb (by omega) (by omega) h
 · rcases Nat.lt_or_ge (tl y m) 2 with h1 | h1
   · have h2:tl y m=1:=by
      have:tl y m≠0:=fun e=>by
       have h3:=vs_tl B64 y m
       rw [e,vs_zero] at h3
       omega
      omega
     have l2:=tl_le y m
     exact divmod_word A B n m c d x y w ha hb (by omega) (by omega) h2 h (Lib.hid fun hi lo u a1 a2 _=>div64_any hi lo (y 0) u a1 (hb.small 0 (by omega)) a2)
   · exact divmod_long A B n m c d x y w ha hb hn hm h1 h
end Go.Proofs.YtmbmohibpkepdaaGreatDoor
namespace Go.Proofs.YtmbmohibpkepdaaGreatDoor
open Go.RowKit
def RW (a r b k:Nat):Prop:=b=2^k/2∧r%2^k=0∧r+2^k≤4294967296∧r*r≤a∧a < (r+2^k)*(r+2^k)
theorem RW.pos {a r b k:Nat} (h:RW a r b k) (hb:0 < b):∃ m,k=m+1∧b=2^m:=by
 rcases k with _ | m
 · have:=h.1;simp at this;omega
 · refine ⟨m,rfl,?_⟩
   rw [h.1,Nat.pow_succ];omega
theorem RW.two {a r b k:Nat} (h:RW a r b k) (hb:0 < b):r+b+b≤4294967296:=by
 obtain ⟨m,rfl,rfl⟩:=h.pos hb
 have:=h.2.2.1
 rw [Nat.pow_succ] at this
 omega
theorem Num.sl' {w:World} {v:Value} {V K:Nat} (h:Num w v V) (hK:V < B64^K):∃ A n c f,v=.slice A n c∧Sl w A n c f∧n≤K∧Cn n f∧vs B64 f n=V:=by
 obtain ⟨A,n,c,f,hv,hs,hc,he⟩:=h
 exact ⟨A,n,c,f,hv,hs,cn_le B64_gt hc (by rw [he];exact hK),hc,he⟩
theorem raised_lt {X n k:Nat} (h:X < B64^n):X*2^k < B64^(n+(k/64+1)):=by
 have h1:(2:Nat)^k≤B64^(k/64+1):=by
  rw [B64_pow,← Nat.pow_mul]
  exact Nat.pow_le_pow_right (by omega) (by omega)
 rw [Nat.pow_add]
 exact Nat.mul_lt_mul_of_lt_of_le h h1 (Nat.pow_pos B64_pos)
end Go.Proofs.YtmbmohibpkepdaaGreatDoor
namespace Go.Proofs.YtmbmohibpkepdaaGreatDoor
open Go.RowKit
theorem bits_le {V B n:Nat} (hB:IsBits V B) (hV:V < B64^n):B≤64*n:=by
 rcases Nat.eq_zero_or_pos V with h0 | h0
 · have:=hB.2.1 h0;omega
 · have h1:=(hB.2.2 (by omega)).2
   rw [B64_pow,← Nat.pow_mul] at hV
   have:=(Nat.pow_lt_pow_iff_right (by omega:1 < 2)).1 (Nat.lt_of_le_of_lt h1 hV)
   omega
end Go.Proofs.YtmbmohibpkepdaaGreatDoor
