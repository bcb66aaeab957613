/-
 math/bits.TrailingZeros64, where its table lies in memory as the program's text lays it.
 nat.raise: a number times 2 to the s.
 nat.lower: a number over 2 to the s, cut.
 nat.Bits.
 volvelleref01: Bits.
 nat.Shl, nat.Shr.
 volvelleref01: Shr.
-/
import Derived.Shelf.Spec.TrailingZeros
import Derived.RegionTactic
import Derived.BigRegion
import Derived.Test.YtmbmohibpkepdaaGreatDoorShelf
import Derived.Test.YtmbmohibpkepdaaGreatDoorPlEGNumbers
import Derived.Test.YtmbmohibpkepdaaGreatDoorPlEGLists
import Derived.Test.YtmbmohibpkepdaaGreatDoorPlEGNat1
namespace Go.Proofs.YtmbmohibpkepdaaGreatDoor
open Go.RowKit
def Tab (w:World):Prop:=0 < w.heap.size∧TabAt 0 Lib.deBruijn64tab w
theorem Tab.below {w w':World} (h:Tab w) (hb:Below w.heap.size w w'):Tab w' :=
 ⟨Nat.lt_of_lt_of_le h.1 hb.size,fun j hj=>(hb.cell h.1).trans (h.2 j hj)⟩
set_option maxHeartbeats 1000000 in
theorem tz_core (x k idx:Nat) (w:World) (hx0:((x:Int) == 0)=false)
 (key:IntKind.u64.wrap (bits BinOp.and IntKind.u64 (x:Int) (IntKind.u64.wrap (-(x:Int)))*285870213051353865)/288230376151711744=(idx:Int))
 (hi:idx < 64) (hk:k < 64) (hcell:w.cell? ⟨0,idx,none⟩=some (.int .u8 k)) :
 Calls Tryz.prog 135 #[.int .u64 x] w fun e w'=>e=.returned (.int .i64 k)∧w=w':=by
 go_enter Tryz.func135,Tryz.ntmps135
 go_wp2_with (simp only [key])
 go_ret
 exact ⟨rfl,rfl⟩
def TzPost (w:World) (x:Nat) (e:Ending) (w':World):Prop:=∃ z T:Nat,e=.returned (.int .i64 (z:Int))∧z < 64∧Hid (x=T*2^z∧T%2=1)∧w=w'
theorem tz_any (x:Nat) (hx:x < B64) (hx0:x≠0) (w:World) (hT:Tab w):Calls Tryz.prog 135 #[.int .u64 (x:Int)] w (TzPost w x):=by
 obtain ⟨hlow,hk⟩:=Lib.lowest_bit 64 x hx0 (by rw [← B64_pow];exact hx)
 obtain ⟨hi,htab⟩:=Lib.deBruijn64_at _ hk
 have hcell:=hT.2 _ hi
 rw [htab] at hcell
 have hx':x < 18446744073709551616:=hx
 refine (tz_core x _ _ w (by simp;omega) (tz64_key x _ hx' hx0 hlow) hi hk hcell).mono ?_
 rintro e w' ⟨rfl,rfl⟩
 obtain ⟨m,hm,_⟩:=Lib.ctzFrom_spec 64 x (by omega) (by rw [← B64_pow];exact hx)
 have e1:Lib.ctz 64 x=Lib.ctzFrom 64 x:=by unfold Lib.ctz;rw [if_neg hx0]
 rw [e1] at hk ⊢
 exact ⟨_,2*m+1,rfl,hk,Lib.hid ⟨by rw [Nat.mul_comm];exact hm,by omega⟩,rfl⟩
end Go.Proofs.YtmbmohibpkepdaaGreatDoor
namespace Go.Proofs.YtmbmohibpkepdaaGreatDoor
open Go.RowKit
def RaiseInv (t:TypeId) (w wr:World) (g N W r:Nat) (x:Nat→Nat) (i:Nat):Prop :=
 ∃ F,Row t wr g N F∧Below g w wr∧F (W+i) < 2^r∧(∀ j,W+i < j→j < N→F j=0)∧vs B64 F (W+i)+F (W+i)*B64^(W+i)=vs B64 x i*B64^W*2^r
theorem RaiseInv.step {t:TypeId} {w wr:World} {g N W r i xi:Nat} {x F:Nat→Nat} (hr:r≤63) (hx:x i=xi) (hxB:xi < B64) (hrow:Row t wr g N F) (hb:Below g w wr) (hlt:F (W+i) < 2^r)
 (hz:∀ j,W+i < j→j < N→F j=0) (hv:vs B64 F (W+i)+F (W+i)*B64^(W+i)=vs B64 x i*B64^W*2^r) :
 RaiseInv t w ((wr.setCell ⟨g,W+i,none⟩ (.int .u64 ((F (W+i)+xi*2^r%B64:Nat):Int))).setCell ⟨g,W+i+1,none⟩ (.int .u64 ((xi/2^(64-r):Nat):Int))) g N W r x (i+1):=by
 have h1:=low_add_lt (F (W+i)) xi r (by omega) hlt
 have h2:=shr_lt xi r (by omega) hxB
 have h3:xi/2^(64-r) < B64:=Nat.lt_of_le_of_lt (Nat.div_le_self _ _) hxB
 refine ⟨_,(hrow.set_ (W+i) _ h1).set_ (W+i+1) _ h3,(hb.setCell (Nat.le_refl _) _).setCell (Nat.le_refl _) _,?_,fun j hj hjN=>?_,?_⟩
 · rw [← Nat.add_assoc,upd_same];exact h2
 · rw [upd_other _ _ _ _ (by omega),upd_other _ _ _ _ (by omega)];exact hz j (by omega) hjN
 · rw [← Nat.add_assoc,upd_same,vs_upd_ge _ _ _ _ _ (Nat.le_refl _),vs_succ,upd_same,vs_upd_ge _ _ _ _ _ (Nat.le_refl _),step_shl (by omega) hv,vs_succ,hx]
   congr 1
   rw [Nat.add_mul,Nat.pow_add]
   congr 1
   ac_rfl
def New (w:World) (v:Value):Prop:=∀ ad n c,v=.slice (some ad) n c→w.heap.size≤ad.block
def NumNew (w:World) (V:Nat) (e:Ending) (w':World):Prop:=∃ v,e=.returned v∧Num w' v V∧Below w.heap.size w w'∧New w v
theorem NumNew.post {w w':World} {V:Nat} {e:Ending} (h:NumNew w V e w'):NumPost w V e w':=by
 obtain ⟨v,h1,h2,h3,_⟩:=h
 exact ⟨v,h1,h2,h3⟩
theorem new_viewV (w:World) (off c k:Nat):New w (viewV (some ⟨w.heap.size,off,none⟩) c k):=fun ad n c' h=>by
 unfold viewV at h
 split at h
 · cases h
 · cases h;exact Nat.le_refl _
set_option maxHeartbeats 400000 in
theorem raise_core (A:Option Addr) (n c:Nat) (x:Nat→Nat) (s W r:Nat) (w:World) (ha:Sl w A n c x) (hn:n≤400000) (hn0:0 < n) (hW:W≤400000) (hr:r≤63) (eW:(s:Int)/64=(W:Int)) (er:(s:Int)%64=(r:Int)) (hs:s≤30000000) :
 Calls Tryz.prog 168 #[.slice A n c,.int .i64 (s:Int)] w (NumNew w (vs B64 x n*B64^W*2^r)):=by
 have hmk:∀ u:World,(Instr.makeSlice 22 (.int .i64 ((W:Int)+(n:Int)+1)) (.int .i64 ((W:Int)+(n:Int)+1))).run Tryz.prog u =
  .ok (.slice (some ⟨u.heap.size,0,none⟩) (W+n+1) (W+n+1)) (u.alloc (.cells (madeCells #[.int .u64 0] (W+n+1)) 51)):=fun u=>by
  have h:=make_run (W+n+1) (by omega) u
  rw [Int.natCast_add,Int.natCast_add] at h
  exact h
 have zeros:∀ k,vs B64 (fun _=>0) k=0:=fun k=>by induction k with | zero=>rfl | succ k ih=>rw [vs_succ,ih];simp
 have h00:RaiseInv 51 w (w.alloc (.cells (madeCells #[.int .u64 0] (W+n+1)) 51)) w.heap.size (W+n+1) W r x 0 :=
  ⟨_,Row.made 51 w (W+n+1),(Below.refl _ w).alloc (Nat.le_refl _) _,Nat.two_pow_pos _,fun _ _ _=>rfl,by simp [zeros,vs_zero]⟩
 clear zeros
 generalize hN:W+n+1=N at *
 have HN:=Lib.hid hN
 have hN1:W+n+1≤N:=by omega
 have hN2:N≤W+n+1:=by omega
 clear hN
 have hn':((n:Int) == 0)=false:=by simp;omega
 go_enter Tryz.func168,Tryz.ntmps168
 go_wp2_with fail
 clear eW er hmk
 go_loopw [26] (fun s26 wr=>∃ i:Nat,i≤n∧s26=.int .i64 (i:Int)∧RaiseInv 51 w wr w.heap.size N W r x i) (fun s26 _=>n-(intOf s26).toNat)
 case atStart=>exact ⟨0,Nat.zero_le _,rfl,h00⟩
 case round =>
  clear h00
  obtain ⟨i,hi,rfl,F,hrow,hb,hlt,hz,hv⟩:=hrel
  have HZ:=Lib.hid hz
  have HV:=Lib.hid hv
  clear hz hv
  by_cases hin:i < n
  · obtain ⟨ad,rfl,hb1,hx64,hcell⟩:=(ha.below hb).at_ hin
    have hst:=Lib.hid (RaiseInv.step hr rfl hx64 hrow hb hlt HZ.out HV.out)
    have hrc:=hrow.cell (i:=W+i) (by omega)
    have hrf:=hrow.frozen (W+i)
    have hFB:=hrow.2 (W+i) (by omega)
    have eo:bits .or .u64 (F (W+i):Int) (IntKind.u64.wrap ((x i:Int)*2^r))=((F (W+i)+x i*2^r%B64:Nat):Int):=by rw [shl_word];exact low_or_int _ _ _ (by omega) hlt hFB
    have es:(x i:Int)/2^(64-r)=((x i/2^(64-r):Nat):Int):=shr_word _ _
    have hrow2:=hrow.set_ (W+i) _ (low_add_lt (F (W+i)) (x i) r (by omega) hlt)
    have hrc2:=hrow2.cell (i:=W+i+1) (by omega)
    have hrf2:=hrow2.frozen (W+i+1)
    clear hrow2
    generalize F (W+i)+x i*2^r%B64=v1 at *
    generalize x i/2^(64-r)=v2 at *
    go_wp2_with fail
    go_roundw
    case rel=>exact ⟨i+1,by omega,by go_num,hst.out⟩
    case measure=>simp [intOf];omega
  · obtain rfl:i=n:=by omega
    go_wp2_with fail
    have hsl:=hrow.sl0 N N (Nat.le_refl _) (Nat.le_refl _)
    refine (view_raw _ N N _ wr hsl (by omega)).mono ?_
    rintro e w5 ⟨rfl,rfl⟩
    go_wp2_with fail
    go_ret
    have hnum:=viewV_num hsl
    have e1:vs B64 F N=vs B64 x i*B64^W*2^r:=by rw [← HN.out,vs_succ,HV.out]
    rw [e1] at hnum
    exact ⟨_,rfl,hnum,hb,new_viewV w 0 N _⟩
theorem raise_new (A:Option Addr) (n c:Nat) (x:Nat→Nat) (s:Nat) (w:World) (ha:Sl w A n c x) (hn:n≤400000) (hs:s≤20000000) :
 Calls Tryz.prog 168 #[.slice A n c,.int .i64 (s:Int)] w (NumNew w (vs B64 x n*2^s)):=by
 rcases Nat.eq_zero_or_pos n with h0 | h0
 · subst h0
   rw [vs_zero,Nat.zero_mul]
   go_enter Tryz.func168,Tryz.ntmps168
   go_wp2_with fail
   go_ret
   exact ⟨_,rfl,⟨none,0,0,x,rfl,Sl.none_ _ _ _ _,.inl rfl,rfl⟩,Below.refl _ _,fun ad n c h=>by cases h⟩
 · rw [pow_split s,← Nat.mul_assoc]
   exact raise_core A n c x s (s/64) (s%64) w ha hn h0 (by omega) (by omega) (by omega) (by omega) (by omega)
theorem raise_any (A:Option Addr) (n c:Nat) (x:Nat→Nat) (s:Nat) (w:World) (ha:Sl w A n c x) (hn:n≤400000) (hs:s≤20000000) :
 Calls Tryz.prog 168 #[.slice A n c,.int .i64 (s:Int)] w (NumPost w (vs B64 x n*2^s)) :=
 (raise_new A n c x s w ha hn hs).mono fun _ _ h=>h.post
end Go.Proofs.YtmbmohibpkepdaaGreatDoor
namespace Go.Proofs.YtmbmohibpkepdaaGreatDoor
open Go.RowKit
def fromW (x:Nat→Nat) (n W:Nat):Nat→Nat:=fun j=>if W+j < n then x (W+j) else 0
def LowerInv (t:TypeId) (w wr:World) (g N:Nat) (y:Nat→Nat) (r i:Nat):Prop:=∃ F,Row t wr g N F∧Below g w wr∧∀ j,j < i→F j=lw y r j
theorem LowerInv.step {t:TypeId} {w w':World} {g N r i v:Nat} {y F:Nat→Nat} (hF:∀ j,j < i→F j=lw y r j) (hv:v=lw y r i) (hrow:Row t w' g N (upd F i v)) (hb:Below g w w'):LowerInv t w w' g N y r (i+1):=by
 refine ⟨_,hrow,hb,fun j hj=>?_⟩
 unfold upd;split
 · rename_i e;rw [e,hv]
 · exact hF j (by omega)
set_option maxHeartbeats 1000000 in
theorem lower_core (A:Option Addr) (n c:Nat) (x:Nat→Nat) (s W r L:Nat) (w:World) (ha:Sl w A n c x) (hn:n≤400000) (hW:W < n) (hL1:W+L≤n) (hL2:n≤W+L) (hr:r≤63) (eW:(s:Int)/64=(W:Int)) (er:(s:Int)%64=(r:Int)) (hs:s≤30000000) :
 Calls Tryz.prog 171 #[.slice A n c,.int .i64 (s:Int)] w (NumPost w (vs B64 (lw (fromW x n W) r) L)):=by
 have hmk:∀ u:World,(Instr.makeSlice 22 (.int .i64 ((n:Int)-(W:Int))) (.int .i64 ((n:Int)-(W:Int)))).run Tryz.prog u =
  .ok (.slice (some ⟨u.heap.size,0,none⟩) L L) (u.alloc (.cells (madeCells #[.int .u64 0] L) 51)):=fun u=>by
  have h:=make_run L (by omega) u
  rw [show (L:Int)=(n:Int)-(W:Int) by omega] at h
  exact h
 have h00:LowerInv 51 w (w.alloc (.cells (madeCells #[.int .u64 0] L) 51)) w.heap.size L (fromW x n W) r 0 :=
  ⟨_,Row.made 51 w L,(Below.refl _ w).alloc (Nat.le_refl _) _,fun j h=>absurd h (by omega)⟩
 have h63:(2:Nat)^r≤B64:=pow_le_B64 r (by omega)
 go_enter Tryz.func171,Tryz.ntmps171
 go_wp2_with fail
 clear eW er hmk
 go_loopw [25] (fun s25 wr=>∃ i:Nat,i≤L∧s25=.int .i64 (i:Int)∧LowerInv 51 w wr w.heap.size L (fromW x n W) r i) (fun s25 _=>L-(intOf s25).toNat)
 case atStart=>exact ⟨0,Nat.zero_le _,rfl,h00⟩
 case round =>
  clear h00
  obtain ⟨i,hi,rfl,F,hrow,hb,hF⟩:=hrel
  have HF:=Lib.hid hF
  clear hF
  by_cases hin:i < L
  · obtain ⟨ad,rfl,hb1,hx64,hcell⟩:=(ha.below hb).at_ (k:=W+i) (by omega)
    have es:(x (W+i):Int)/2^r=((x (W+i)/2^r:Nat):Int):=shr_word _ _
    have hv1B:x (W+i)/2^r < B64:=Nat.lt_of_le_of_lt (Nat.div_le_self _ _) hx64
    have hyi:Hid (fromW x n W i=x (W+i)):=Lib.hid (by unfold fromW;rw [if_pos (by omega)])
    have hrc:=hrow.cell (i:=i) (by omega)
    have hrf:=hrow.frozen i
    by_cases hnext:W+i+1 < n
    · obtain ⟨_,e,_,hz64,hcell2⟩:=(ha.below hb).at_ (k:=W+i+1) hnext
      injection e with e
      subst e
      have hyn:Hid (fromW x n W (i+1)=x (W+i+1)):=Lib.hid (by unfold fromW;rw [if_pos (by omega),Nat.add_assoc])
      have eo:bits .or .u64 ((x (W+i)/2^r:Nat):Int) (IntKind.u64.wrap ((x (W+i+1):Int)*2^(64-r)))=((x (W+i)/2^r+x (W+i+1)*2^(64-r)%B64:Nat):Int):=by
       rw [shl_word,or64 _ _ hv1B (Nat.mod_lt _ B64_pos),lw_or _ _ _ (by omega) hx64]
      have hlw:Hid (x (W+i)/2^r+x (W+i+1)*2^(64-r)%B64=lw (fromW x n W) r i):=Lib.hid (by unfold lw;rw [hyi.out,hyn.out])
      have hlwB:=lw_lt (x (W+i)) (x (W+i+1)) r (by omega) hx64
      have hrow1:=hrow.set_ i _ hv1B
      have hrc1:=hrow1.cell (i:=i) (by omega)
      rw [upd_same] at hrc1
      have hrf1:=hrow1.frozen i
      have hbn:Below w.heap.size w (wr.setCell ⟨w.heap.size,i,none⟩ (.int .u64 ((x (W+i)/2^r:Nat):Int))):=hb.setCell (Nat.le_refl _) _
      obtain ⟨_,e,_,_,hcell3⟩:=(ha.below hbn).at_ (k:=W+i+1) hnext
      injection e with e
      subst e
      rw [show ad.add (W+i+1)=⟨ad.block,ad.off+(W+i+1),none⟩ from by simp [Addr.add]] at hcell3
      generalize x (W+i)/2^r+x (W+i+1)*2^(64-r)%B64=v2 at *
      generalize x (W+i)/2^r=v1 at *
      generalize x (W+i+1)=z at *
      have q1:IntKind.i64.wrap ((W:Int)+(i:Int))=(W:Int)+(i:Int):=IntWalk.i64_in _ (by omega)
      have q2:IntKind.i64.wrap ((W:Int)+(i:Int)+1)=(W:Int)+(i:Int)+1:=IntWalk.i64_in _ (by omega)
      have q3:0≤(W:Int)+(i:Int)+1:=by omega
      have q4:((W:Int)+(i:Int)+1).toNat=W+i+1:=by omega
      have q5:(W:Int)+(i:Int)+1 < (n:Int):=by omega
      have q6:IntKind.u64.wrap (64-(r:Int))=64-(r:Int):=IntWalk.u64_in _ (by omega)
      have q7:(64-(r:Int)).toNat=64-r:=by omega
      go_wp2_with fail
      clear hrc hrf hcell hcell2
      generalize wr.setCell ⟨w.heap.size,i,none⟩ (.int .u64 (v1:Int))=w1 at *
      go_region
      go_wp2_with fail
      go_roundw
      case rel=>exact ⟨i+1,by omega,by go_num,LowerInv.step (fun j hj=>by rw [upd_other _ _ _ _ (by omega)];exact HF.out j hj) hlw.out (hrow1.set_ i v2 hlwB).drew (hbn.setCell (Nat.le_refl _) _).drew⟩
      case measure=>simp [intOf];omega
    · have hlw:Hid (x (W+i)/2^r=lw (fromW x n W) r i):=Lib.hid (by
       unfold lw
       rw [hyi.out,show fromW x n W (i+1)=0 from by unfold fromW;rw [if_neg (by omega)]]
       simp)
      generalize x (W+i)/2^r=v1 at *
      go_wp2_with fail
      go_roundw
      case rel=>exact ⟨i+1,by omega,by go_num,LowerInv.step HF.out hlw.out (hrow.set_ i v1 hv1B) (hb.setCell (Nat.le_refl _) _)⟩
      case measure=>simp [intOf];omega
  · obtain rfl:i=L:=by omega
    go_wp2_with fail
    have hsl:=hrow.sl0 i i (Nat.le_refl _) (Nat.le_refl _)
    refine (view_raw _ i i _ wr hsl (by omega)).mono ?_
    rintro e w5 ⟨rfl,rfl⟩
    go_wp2_with fail
    go_ret
    have hnum:=viewV_num hsl
    rw [vs_congr HF.out] at hnum
    exact ⟨_,rfl,hnum,hb⟩
theorem lower_any (A:Option Addr) (n c:Nat) (x:Nat→Nat) (s:Nat) (w:World) (ha:Sl w A n c x) (hn:n≤400000) (hs:s≤20000000) :
 Calls Tryz.prog 171 #[.slice A n c,.int .i64 (s:Int)] w (NumPost w (vs B64 x n/2^s)):=by
 rw [pow_split s]
 rcases Nat.lt_or_ge (s/64) n with h0 | h0
 · have h:=lower_core A n c x s (s/64) (s%64) (n-s/64) w ha hn h0 (by omega) (by omega) (by omega) (by omega) (by omega) (by omega)
   rw [vs_lw_div _ _ _ (by omega) (by unfold fromW;rw [if_neg (by omega)])] at h
   have e:vs B64 (fromW x n (s/64)) (n-s/64)=vs B64 (fun j=>x (s/64+j)) (n-s/64):=vs_congr fun j hj=>by unfold fromW;rw [if_pos (by omega)]
   rw [e,vs_from x n (s/64) ha.small (by omega),Nat.div_div_eq_div_mul] at h
   exact h
 · rw [shr_small x n (s/64) ha.small h0]
   have hW:(n:Int)≤(s:Int)/64:=by omega
   go_enter Tryz.func171,Tryz.ntmps171
   go_wp2_with fail
   go_ret
   exact ⟨_,rfl,⟨none,0,0,x,rfl,Sl.none_ _ _ _ _,.inl rfl,rfl⟩,Below.refl _ _⟩
end Go.Proofs.YtmbmohibpkepdaaGreatDoor
namespace Go.Proofs.YtmbmohibpkepdaaGreatDoor
open Go.RowKit
def BitsPost (w:World) (V:Nat) (e:Ending) (w':World):Prop:=∃ B:Nat,e=.returned (.int .i64 (B:Int))∧IsBits V B∧Below w.heap.size w w'
def BitsSame (w:World) (V:Nat) (e:Ending) (w':World):Prop:=∃ B:Nat,e=.returned (.int .i64 (B:Int))∧IsBits V B∧w=w'
theorem bits_same_wide (A:Option Addr) (n c:Nat) (x:Nat→Nat) (w:World) (ha:Sl w A n c x) (hn:n≤70368744177664) :
 Calls Tryz.prog 117 #[.slice A n c] w (BitsSame w (vs B64 x n)):=by
 obtain ⟨A1,c1,e1,s1⟩:=viewV_sl ha
 have l1:=tl_le x n
 have cn:=tl_cn x n
 have V1:=view_wide A n c x w ha (by omega)
 rw [e1] at V1
 rw [← vs_tl B64 x n]
 have H1:=Lib.hid V1
 clear V1 e1
 generalize tl x n=p at *
 rcases p with _ | p
 · go_enter Tryz.func117,Tryz.ntmps117
   go_wp2_with fail
   refine H1.out.mono ?_
   rintro e w' ⟨rfl,rfl⟩
   go_wp2_with fail
   go_ret
   exact ⟨0,rfl,IsBits.zero,rfl⟩
 · obtain ⟨ad,rfl,hb,hx64,hcell⟩:=s1.at_ (k:=p) (by omega)
   have h0:0 < x p:=by
    rcases cn with h | h
    · omega
    · simp only [Nat.add_sub_cancel] at h;omega
   obtain ⟨b1,b2,b3,b4⟩:=len_bounds (x p) h0 hx64
   have hfin:=Lib.hid (bits_top s1.small b1 b3 b4)
   have L64:=Tryz.bits_Len64 (x p:Int) w (by omega) (by unfold B64 at hx64;omega)
   rw [Int.toNat_natCast] at L64
   have HL:=Lib.hid L64
   clear L64 b3 b4
   generalize Lib.bitLen (x p)=L at *
   go_enter Tryz.func117,Tryz.ntmps117
   go_wp2_with fail
   refine H1.out.mono ?_
   rintro e w' ⟨rfl,rfl⟩
   go_wp2_with fail
   refine HL.out.mono ?_
   rintro e w' ⟨rfl,rfl⟩
   go_wp2_with fail
   go_ret
   exact ⟨64*p+L,by go_num,hfin.out,rfl⟩
theorem bits_same (A:Option Addr) (n c:Nat) (x:Nat→Nat) (w:World) (ha:Sl w A n c x) (hn:n≤400000) :
 Calls Tryz.prog 117 #[.slice A n c] w (BitsSame w (vs B64 x n)):=bits_same_wide A n c x w ha (by omega)
theorem bits_wide (A:Option Addr) (n c:Nat) (x:Nat→Nat) (w:World) (ha:Sl w A n c x) (hn:n≤70368744177664) :
 Calls Tryz.prog 117 #[.slice A n c] w (BitsPost w (vs B64 x n)):=by
 refine (bits_same_wide A n c x w ha hn).mono ?_
 rintro e w' ⟨B,rfl,hB,rfl⟩
 exact ⟨B,rfl,hB,Below.refl _ _⟩
theorem bits_any (A:Option Addr) (n c:Nat) (x:Nat→Nat) (w:World) (ha:Sl w A n c x) (hn:n≤400000) :
 Calls Tryz.prog 117 #[.slice A n c] w (BitsPost w (vs B64 x n)):=bits_wide A n c x w ha (by omega)
end Go.Proofs.YtmbmohibpkepdaaGreatDoor
namespace Go.Proofs.YtmbmohibpkepdaaGreatDoor
open Go.RowKit
set_option maxHeartbeats 400000 in
theorem rbits_any (A:Option Addr) (n c:Nat) (x:Nat→Nat) (w:World) (ha:Sl w A n c x) (hn:n≤400000) :
 Calls Tryz.prog 84 #[.slice A n c] w (BitsPost w (vs B64 x n)):=by
 have hVb:Hid (vs B64 x n < B64^n):=Lib.hid (vs_lt ha.small)
 have T:=Lib.hid (rtrim_any A n c x w ha (by omega))
 generalize vs B64 x n=V at *
 go_enter Tryz.func84,Tryz.ntmps84
 go_wp2_with fail
 refine T.out.mono ?_
 rintro e w1 ⟨v,rfl,⟨A1,p,c1,f,rfl,s1,cn,hv⟩,b1⟩
 have hp:p≤n:=cn_le B64_gt cn (by rw [hv];exact hVb.out)
 have HV:=Lib.hid hv
 clear hv hVb T
 rcases p with _ | p
 · go_wp2_with fail
   go_ret
   refine ⟨0,rfl,?_,b1⟩
   rw [← HV.out];exact IsBits.zero
 · obtain ⟨ad,rfl,hb,hx64,hcell⟩:=s1.at_ (k:=p) (by omega)
   have h0:0 < f p:=by
    rcases cn with h | h
    · omega
    · simp only [Nat.add_sub_cancel] at h;omega
   obtain ⟨l1,l2,l3,l4⟩:=len_bounds (f p) h0 hx64
   have hfin:=Lib.hid (bits_top s1.small l1 l3 l4)
   clear l3 l4
   have hL:Hid (Lib.bitLen (f p)=Lib.bitLen (f p)):=Lib.hid rfl
   generalize hLL:Lib.bitLen (f p)=L at *
   have HL:=Lib.hid hLL
   clear hLL hL
   have hf6:f p≤18446744073709551615:=by unfold B64 at hx64;omega
   generalize f p=top at *
   go_wp2_with fail
   go_loop [4,5] (fun s4 s5=>∃ k z:Nat,k≤64∧z≤18446744073709551615∧s4=.int .i64 (64*(p:Int)+(k:Int))∧s5=.int .u64 (z:Int)∧Hid (k+Lib.bitLen z=L)) (fun _ s5=>(intOf s5).toNat)
   case atStart=>exact ⟨0,top,by omega,hf6,by go_num,rfl,Lib.hid (by rw [HL.out];omega)⟩
   case round =>
    obtain ⟨k,z,hk,hz,rfl,rfl,hkl⟩:=hrel
    rcases Nat.eq_zero_or_pos z with hz0 | hz0
    · subst hz0
      go_wp2_with fail
      go_ret
      have e:k=L:=by have:=hkl.out;rw [show Lib.bitLen 0=0 from rfl] at this;omega
      refine ⟨64*p+L,by rw [← e];go_num,?_,b1⟩
      rw [← HV.out];exact hfin.out
    · have hhalf:=Lib.hid (Lib.bitLen_half z (by omega) (by omega))
      have hk':k+1≤L:=by have h1:=hkl.out;have h2:=hhalf.out;omega
      go_wp2_with fail
      go_round
      case rel=>exact ⟨k+1,z/2,by omega,by omega,by go_num,by go_num,Lib.hid (by have h1:=hkl.out;have h2:=hhalf.out;omega)⟩
      case measure=>simp [intOf];omega
end Go.Proofs.YtmbmohibpkepdaaGreatDoor
namespace Go.Proofs.YtmbmohibpkepdaaGreatDoor
open Go.RowKit
theorem shl_new (A:Option Addr) (n c:Nat) (x:Nat→Nat) (s:Nat) (w:World) (ha:Sl w A n c x) (hn:n≤400000) (hs:s≤1048576) :
 Calls Tryz.prog 123 #[.slice A n c,.int .i64 (s:Int)] w (NumNew w (vs B64 x n*2^s)):=by
 obtain ⟨A1,c1,e1,s1⟩:=viewV_sl ha
 have l1:=tl_le x n
 have V1:=view_raw A n c x w ha (by omega)
 rw [e1] at V1
 rw [← vs_tl B64 x n]
 have H1:=Lib.hid V1
 clear V1 e1
 generalize tl x n=p at *
 have h0:¬ (s:Int) < 0:=by omega
 have h1:¬ (1048576:Int) < (s:Int):=by omega
 go_enter Tryz.func123,Tryz.ntmps123
 go_wp2_with fail
 refine H1.out.mono ?_
 rintro e w' ⟨rfl,rfl⟩
 go_wp2_with fail
 refine (raise_new A1 p c1 x s w s1 (by omega) (by omega)).mono ?_
 rintro e w2 ⟨v,rfl,hnum,b,hnew⟩
 go_wp2_with fail
 go_ret
 exact ⟨v,rfl,hnum,b,hnew⟩
theorem shl_any (A:Option Addr) (n c:Nat) (x:Nat→Nat) (s:Nat) (w:World) (ha:Sl w A n c x) (hn:n≤400000) (hs:s≤1048576) :
 Calls Tryz.prog 123 #[.slice A n c,.int .i64 (s:Int)] w (NumPost w (vs B64 x n*2^s)) :=
 (shl_new A n c x s w ha hn hs).mono fun _ _ h=>h.post
theorem shr_any (A:Option Addr) (n c:Nat) (x:Nat→Nat) (s:Nat) (w:World) (ha:Sl w A n c x) (hn:n≤400000) (hs:s≤1048576) :
 Calls Tryz.prog 136 #[.slice A n c,.int .i64 (s:Int)] w (NumPost w (vs B64 x n/2^s)):=by
 obtain ⟨A1,c1,e1,s1⟩:=viewV_sl ha
 have l1:=tl_le x n
 have V1:=view_raw A n c x w ha (by omega)
 rw [e1] at V1
 rw [← vs_tl B64 x n]
 have H1:=Lib.hid V1
 clear V1 e1
 generalize tl x n=p at *
 have h0:¬ (s:Int) < 0:=by omega
 have h1:¬ (1048576:Int) < (s:Int):=by omega
 go_enter Tryz.func136,Tryz.ntmps136
 go_wp2_with fail
 refine H1.out.mono ?_
 rintro e w' ⟨rfl,rfl⟩
 go_wp2_with fail
 refine (lower_any A1 p c1 x s w s1 (by omega) (by omega)).mono ?_
 rintro e w2 ⟨v,rfl,hnum,b⟩
 go_wp2_with fail
 go_ret
 exact ⟨v,rfl,hnum,b⟩
end Go.Proofs.YtmbmohibpkepdaaGreatDoor
namespace Go.Proofs.YtmbmohibpkepdaaGreatDoor
open Go.RowKit
theorem Sl.drop {w:World} {ad:Addr} {n c:Nat} {x:Nat→Nat} (h:Sl w (some ad) n c x) (W:Nat) (hW:W≤n):Sl w (some (ad.add W)) (n-W) (c-W) (fun j=>x (W+j)):=by
 obtain ⟨h1,h2,h3⟩:=h
 refine ⟨by omega,fun j hj=>h2 _ (by omega),fun hn=>?_⟩
 obtain ⟨ad',e,hb,hc⟩:=h3 (by omega)
 injection e with e
 subst e
 exact ⟨_,rfl,by rw [block_of_add];exact hb,fun j hj=>by rw [add_of_add];exact hc _ (by omega)⟩
def RLowInv (t:TypeId) (w wr:World) (g B N:Nat) (y:Nat→Nat) (r i:Nat):Prop:=∃ F,Row t wr g N F∧Below B w wr∧(∀ j,j < i→F j=lw y r j)∧∀ j,i≤j→F j=y j
theorem RLowInv.step {t:TypeId} {w w':World} {g B N r i v:Nat} {y F:Nat→Nat} (hF:∀ j,j < i→F j=lw y r j) (hG:∀ j,i < j→F j=y j) (hv:v=lw y r i) (hrow:Row t w' g N (upd F i v)) (hb:Below B w w'):RLowInv t w w' g B N y r (i+1):=by
 refine ⟨_,hrow,hb,fun j hj=>?_,fun j hj=>?_⟩
 · unfold upd;split
   · rename_i e;rw [e,hv]
   · exact hF j (by omega)
 · rw [upd_other _ _ _ _ (by omega)];exact hG j (by omega)
set_option maxHeartbeats 400000 in
theorem rshr_zero (A:Option Addr) (n c:Nat) (x:Nat→Nat) (s W L:Nat) (w:World) (ha:Sl w A n c x) (hn:n≤400000) (hW:W < n) (hL1:W+L≤n) (hL2:n≤W+L) (eW:(s:Int)/64=(W:Int)) (er:(s:Int)%64=0) (hs:s≤1048576) :
 Calls Tryz.prog 158 #[.slice A n c,.int .i64 (s:Int)] w (NumPost w (vs B64 (fun j=>x (W+j)) L)):=by
 have hcap:=ha.cap
 obtain ⟨ad,rfl,_,_,_⟩:=ha.at_ hW
 have hdrop:=ha.drop W (by omega)
 have h0:¬ (s:Int) < 0:=by omega
 have h1:¬ (1048576:Int) < (s:Int):=by omega
 have hcW:¬ c=W:=by omega
 go_enter Tryz.func158,Tryz.ntmps158
 go_wp2_with (at_builtin;refine wpList_append_words rfl (.tmp 18) (.tmp 22) 22 rfl w.heap.size 51 Tryz.underlying22 info64 _ 0 x rfl (Own.empty _ w _ _ (Nat.le_refl _)) _ (n-W) (c-W) (fun j=>x (W+j)) rfl (hdrop.alloc _) (by omega) (by simp) ?_;intro v1 w1 hown1 hbel1;rw [show 0+(n-W)=L by omega] at hown1;obtain ⟨A2,c2,rfl,s2,_⟩:=hown1.sl)
 have b1:Below w.heap.size w w1:=hbel1 _ _ (Nat.le_refl _) ((Below.refl _ _).alloc (Nat.le_refl _) _)
 refine (rtrim_any A2 L c2 _ w1 s2 (by omega)).mono ?_
 rintro e w2 ⟨v2,rfl,hnum,b2⟩
 go_wp2_with fail
 go_ret
 rw [vs_congr (g:=fun j=>x (W+j)) fun j _=>by simp [cat]] at hnum
 exact ⟨v2,rfl,hnum,b1.trans (b2.mono b1.size)⟩
set_option maxHeartbeats 1000000 in
theorem rshr_core (A:Option Addr) (n c:Nat) (x:Nat→Nat) (s W r L:Nat) (w:World) (ha:Sl w A n c x) (hn:n≤400000) (hW:W < n) (hL1:W+L≤n) (hL2:n≤W+L) (hr:r≤63) (hr0:0 < r) (eW:(s:Int)/64=(W:Int)) (er:(s:Int)%64=(r:Int)) (hs:s≤1048576) :
 Calls Tryz.prog 158 #[.slice A n c,.int .i64 (s:Int)] w (NumPost w (vs B64 (lw (fromW x n W) r) L)):=by
 have hcap:=ha.cap
 obtain ⟨ad,rfl,_,_,_⟩:=ha.at_ hW
 have hdrop:=ha.drop W (by omega)
 have h0:¬ (s:Int) < 0:=by omega
 have h1:¬ (1048576:Int) < (s:Int):=by omega
 have hcW:¬ c=W:=by omega
 go_enter Tryz.func158,Tryz.ntmps158
 go_wp2_with (at_builtin;refine wpList_append_words rfl (.tmp 18) (.tmp 22) 22 rfl w.heap.size 51 Tryz.underlying22 info64 _ 0 x rfl (Own.empty _ w _ _ (Nat.le_refl _)) _ (n-W) (c-W) (fun j=>x (W+j)) rfl (hdrop.alloc _) (by omega) (by simp) ?_;intro v1 w1 hown1 hbel1;rw [show 0+(n-W)=L by omega] at hown1;obtain ⟨g,c2,rfl,hg,hc2,hrow0⟩:=hown1.row (by omega))
 have b1:Below w.heap.size w w1:=hbel1 _ _ (Nat.le_refl _) ((Below.refl _ _).alloc (Nat.le_refl _) _)
 clear hbel1 hown1 hdrop
 have h00:RLowInv 51 w w1 g w.heap.size L (fromW x n W) r 0:=by
  refine ⟨fromW x n W,hrow0.congr fun j hj=>?_,b1,fun j h=>absurd h (by omega),fun _ _=>rfl⟩
  unfold fromW;rw [if_pos (by omega)];simp [cat]
 clear hrow0
 go_loopw [6] (fun s6 wr=>∃ i:Nat,i≤L∧s6=.int .i64 (i:Int)∧RLowInv 51 w wr g w.heap.size L (fromW x n W) r i) (fun s6 _=>L-(intOf s6).toNat)
 case atStart=>exact ⟨0,Nat.zero_le _,rfl,h00⟩
 case round =>
  clear h00
  obtain ⟨i,hi,rfl,F,hrow,hb,hF,hG⟩:=hrel
  by_cases hin:i < L
  · have hyi:F i=x (W+i):=by rw [hG i (by omega)];unfold fromW;rw [if_pos (by omega)]
    have hyi':Hid (fromW x n W i=x (W+i)):=Lib.hid (by unfold fromW;rw [if_pos (by omega)])
    have hx64:=ha.small (W+i) (by omega)
    have hrc:=hrow.cell (i:=i) (by omega)
    rw [hyi] at hrc
    have HF:=Lib.hid hF
    have HG:=Lib.hid hG
    clear hF hG hyi
    have hrf:=hrow.frozen i
    have es:(x (W+i):Int)/2^r=((x (W+i)/2^r:Nat):Int):=shr_word _ _
    have hv1B:x (W+i)/2^r < B64:=Nat.lt_of_le_of_lt (Nat.div_le_self _ _) hx64
    by_cases hnext:W+i+1 < n
    · have hyn:Hid (fromW x n W (i+1)=x (W+i+1)):=Lib.hid (by unfold fromW;rw [if_pos (by omega),Nat.add_assoc])
      have eo:bits .or .u64 ((x (W+i)/2^r:Nat):Int) (IntKind.u64.wrap ((x (W+i+1):Int)*2^(64-r)))=((x (W+i)/2^r+x (W+i+1)*2^(64-r)%B64:Nat):Int):=by
       rw [shl_word,or64 _ _ hv1B (Nat.mod_lt _ B64_pos),lw_or _ _ _ (by omega) hx64]
      have hlw:Hid (x (W+i)/2^r+x (W+i+1)*2^(64-r)%B64=lw (fromW x n W) r i):=Lib.hid (by unfold lw;rw [hyi'.out,hyn.out])
      have hlwB:=lw_lt (x (W+i)) (x (W+i+1)) r (by omega) hx64
      have hrow1:=hrow.set_ i _ hv1B
      have hrc1:=hrow1.cell (i:=i) (by omega)
      rw [upd_same] at hrc1
      have hrf1:=hrow1.frozen i
      have hbn:Below w.heap.size w (wr.setCell ⟨g,i,none⟩ (.int .u64 ((x (W+i)/2^r:Nat):Int))):=hb.setCell hg _
      obtain ⟨_,e,_,_,hcell3⟩:=(ha.below hbn).at_ (k:=W+i+1) hnext
      injection e with e
      subst e
      rw [show ad.add (W+i+1)=⟨ad.block,ad.off+(W+i+1),none⟩ from by simp [Addr.add]] at hcell3
      generalize x (W+i)/2^r+x (W+i+1)*2^(64-r)%B64=v2 at *
      generalize x (W+i)/2^r=v1 at *
      generalize x (W+i+1)=z at *
      have q1:IntKind.i64.wrap ((W:Int)+(i:Int))=(W:Int)+(i:Int):=IntWalk.i64_in _ (by omega)
      have q2:IntKind.i64.wrap ((W:Int)+(i:Int)+1)=(W:Int)+(i:Int)+1:=IntWalk.i64_in _ (by omega)
      have q3:0≤(W:Int)+(i:Int)+1:=by omega
      have q4:((W:Int)+(i:Int)+1).toNat=W+i+1:=by omega
      have q5:(W:Int)+(i:Int)+1 < (n:Int):=by omega
      have q6:IntKind.i64.wrap (64-(r:Int))=64-(r:Int):=IntWalk.i64_in _ (by omega)
      have q7:(64-(r:Int)).toNat=64-r:=by omega
      have q8:0≤64-(r:Int):=by omega
      go_wp2_with fail
      clear hrc hrf
      generalize wr.setCell ⟨g,i,none⟩ (.int .u64 (v1:Int))=w1 at *
      go_region
      go_wp2_with fail
      go_roundw
      case rel=>exact ⟨i+1,by omega,by go_num,RLowInv.step (fun j hj=>by rw [upd_other _ _ _ _ (by omega)];exact HF.out j hj) (fun j hj=>by rw [upd_other _ _ _ _ (by omega)];exact HG.out j (by omega)) hlw.out (hrow1.set_ i v2 hlwB).drew (hbn.setCell hg _).drew⟩
      case measure=>simp [intOf];omega
    · have hlw:Hid (x (W+i)/2^r=lw (fromW x n W) r i):=Lib.hid (by
       unfold lw
       rw [hyi'.out,show fromW x n W (i+1)=0 from by unfold fromW;rw [if_neg (by omega)]]
       simp)
      generalize x (W+i)/2^r=v1 at *
      go_wp2_with fail
      go_roundw
      case rel=>exact ⟨i+1,by omega,by go_num,RLowInv.step HF.out (fun j hj=>HG.out j (by omega)) hlw.out (hrow.set_ i v1 hv1B) (hb.setCell hg _)⟩
      case measure=>simp [intOf];omega
  · obtain rfl:i=L:=by omega
    have HF:=Lib.hid hF
    clear hF hG
    go_wp2_with fail
    have hsl:=hrow.sl0 i c2 (Nat.le_refl _) hc2
    refine (rtrim_any _ i c2 _ wr hsl (by omega)).mono ?_
    rintro e w5 ⟨v5,rfl,hnum,b5⟩
    go_wp2_with fail
    go_ret
    rw [vs_congr HF.out] at hnum
    exact ⟨v5,rfl,hnum,hb.trans (b5.mono hb.size)⟩
theorem rshr_any (A:Option Addr) (n c:Nat) (x:Nat→Nat) (s:Nat) (w:World) (ha:Sl w A n c x) (hn:n≤400000) (hs:s≤1048576) :
 Calls Tryz.prog 158 #[.slice A n c,.int .i64 (s:Int)] w (NumPost w (vs B64 x n/2^s)):=by
 rw [pow_split s]
 rcases Nat.lt_or_ge (s/64) n with h0 | h0
 · rcases Nat.eq_zero_or_pos (s%64) with hr | hr
   · have h:=rshr_zero A n c x s (s/64) (n-s/64) w ha hn h0 (by omega) (by omega) (by omega) (by omega) hs
     rw [vs_from x n (s/64) ha.small (by omega)] at h
     rw [hr,Nat.pow_zero,Nat.mul_one]
     exact h
   · have h:=rshr_core A n c x s (s/64) (s%64) (n-s/64) w ha hn h0 (by omega) (by omega) (by omega) hr (by omega) (by omega) hs
     rw [vs_lw_div _ _ _ (by omega) (by unfold fromW;rw [if_neg (by omega)])] at h
     have e:vs B64 (fromW x n (s/64)) (n-s/64)=vs B64 (fun j=>x (s/64+j)) (n-s/64):=vs_congr fun j hj=>by unfold fromW;rw [if_pos (by omega)]
     rw [e,vs_from x n (s/64) ha.small (by omega),Nat.div_div_eq_div_mul] at h
     exact h
 · rw [shr_small x n (s/64) ha.small h0]
   have hW:(n:Int)≤(s:Int)/64:=by omega
   have h1:¬ (s:Int) < 0:=by omega
   have h2:¬ (1048576:Int) < (s:Int):=by omega
   go_enter Tryz.func158,Tryz.ntmps158
   go_wp2_with fail
   go_ret
   exact ⟨_,rfl,⟨none,0,0,x,rfl,Sl.none_ _ _ _ _,.inl rfl,rfl⟩,Below.refl _ _⟩
end Go.Proofs.YtmbmohibpkepdaaGreatDoor
