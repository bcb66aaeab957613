/-
 dyad.Plain and volvelleref02.Plain.
 A struct of the call's own as it lies in memory: a block of three cells.
 dyad.Make: the plain dyad of a list and an exponent.
 dyad: isZero, sign, bitsFit, top.
-/
import Derived.Deep.RegionHeld3
import Derived.Test.YtmbmohibpkepdaaGreatDoorPlEGNat1
import Derived.Test.YtmbmohibpkepdaaGreatDoorPlEGNat2
import Derived.Test.YtmbmohibpkepdaaGreatDoorPlEGNat3
import Derived.Test.YtmbmohibpkepdaaGreatDoorPlEGNat6
namespace Go.Proofs.YtmbmohibpkepdaaGreatDoor
open Go.RowKit
abbrev dyv (neg:Bool) (A:Option Addr) (n c:Nat) (e:Int):Value:=.agg #[.bool neg,.slice A n c,.int .i64 e]
def plainB (neg:Bool) (n:Nat) (x:Nat→Nat) (e:Int):Bool :=
 if n=0 then decide (e=0) && !neg else decide (x 0%2=1) && decide (x (n-1)≠0) && decide (nb (vs B64 x n)≤MB) && decide (fitE e)
def BoolPost (w:World) (b:Bool) (e:Ending) (w':World):Prop:=e=.returned (.bool b)∧Below w.heap.size w w'
theorem fits_any (e:Int) (w:World):Calls Tryz.prog 118 #[.int .i64 e] w fun r w'=>r=.returned (.bool (decide (fitE e)))∧w=w':=by
 by_cases h1:-262144≤e
 · by_cases h2:e≤262144
   · have hd:decide (fitE e)=true:=by simp [fitE,h1,h2]
     rw [hd]
     go_enter Tryz.func118,Tryz.ntmps118
     go_wp2_with fail
     go_ret
     exact ⟨rfl,rfl⟩
   · have hd:decide (fitE e)=false:=decide_eq_false fun h=>by unfold fitE at h;omega
     rw [hd]
     go_enter Tryz.func118,Tryz.ntmps118
     go_wp2_with fail
     go_ret
     exact ⟨rfl,rfl⟩
 · have hd:decide (fitE e)=false:=decide_eq_false fun h=>by unfold fitE at h;omega
   rw [hd]
   go_enter Tryz.func118,Tryz.ntmps118
   go_wp2_with fail
   go_ret
   exact ⟨rfl,rfl⟩
theorem and_one (x:Nat) (h:x < B64):Go.bits .and .u64 (x:Int) 1=((x%2:Nat):Int):=by
 have e:=u64_and_nat x 1 (by unfold B64 at h;omega) (by omega)
 rw [show ((1:Nat):Int)=1 from rfl] at e
 rw [e,Nat.and_one_is_mod]
theorem plain_none (neg:Bool) (A:Option Addr) (c:Nat) (x:Nat→Nat) (e:Int) (w:World) :
 Calls Tryz.prog 65 #[dyv neg A 0 c e] w (BoolPost w (plainB neg 0 x e)):=by
 have b1:Below w.heap.size w (w.alloc (.cells #[.bool neg,.slice A 0 c,.int .i64 e] 24)):=(Below.refl _ w).alloc (Nat.le_refl _) _
 by_cases h:e=0
 · subst h
   cases neg
   · go_enter Tryz.func65,Tryz.ntmps65
     go_wp2_with fail
     go_ret
     exact ⟨rfl,b1⟩
   · go_enter Tryz.func65,Tryz.ntmps65
     go_wp2_with fail
     go_ret
     exact ⟨rfl,b1⟩
 · have hd:plainB neg 0 x e=false:=by simp [plainB,h]
   have he:(e == 0)=false:=by simp [h]
   rw [hd]
   go_enter Tryz.func65,Tryz.ntmps65
   go_wp2_with fail
   go_ret
   exact ⟨rfl,b1⟩
set_option maxHeartbeats 1000000 in
theorem plain_wide (neg:Bool) (A:Option Addr) (n c:Nat) (x:Nat→Nat) (e:Int) (w:World) (ha:Sl w A n c x) (hn:n≤70368744177664) :
 Calls Tryz.prog 65 #[dyv neg A n c e] w (BoolPost w (plainB neg n x e)):=by
 rcases n with _ | n
 · exact plain_none neg A c x e w
 · obtain ⟨ad,rfl,hab,hx0,hc0⟩:=ha.at_ (k:=0) (by omega)
   obtain ⟨ad',e1,_,hx1,hc1⟩:=ha.at_ (k:=n) (by omega)
   obtain rfl:ad=ad':=by injection e1
   clear e1
   rw [show ad.add 0=ad from by simp [Addr.add]] at hc0
   have hab1:(ad.add n).block < w.heap.size:=by rw [block_of_add];exact hab
   have b1:Below w.heap.size w (w.alloc (.cells #[.bool neg,.slice (some ad) (n+1) c,.int .i64 e] 24)):=(Below.refl _ w).alloc (Nat.le_refl _) _
   have hB:=bits_wide (some ad) (n+1) c x _ (ha.below b1) (by omega)
   have hand:=and_one (x 0) hx0
   have hn1:((n:Int)+1 == 0)=false:=by simp;omega
   have HB:=Lib.hid hB
   have hspec:plainB neg (n+1) x e=(decide (x 0%2=1) && decide (x n≠0) && decide (nb (vs B64 x (n+1))≤MB) && decide (fitE e)):=by
    unfold plainB;rw [if_neg (by omega),Nat.add_sub_cancel]
   rw [hspec]
   clear hspec hB
   have hb2:x 0%2 < 2:=Nat.mod_lt _ (by omega)
   generalize x 0%2=r at *
   by_cases h1:r=1
   · subst h1
     by_cases h2:x n=0
     · have hd:(decide (1=1) && decide (x n≠0) && decide (nb (vs B64 x (n+1))≤MB) && decide (fitE e))=false:=by simp [h2]
       rw [hd]
       rw [h2] at hc1
       go_enter Tryz.func65,Tryz.ntmps65
       go_wp2_with fail
       go_ret
       exact ⟨rfl,b1⟩
     · have hd:(decide (1=1) && decide (x n≠0) && decide (nb (vs B64 x (n+1))≤MB) && decide (fitE e))=(decide (nb (vs B64 x (n+1))≤MB) && decide (fitE e)):=by simp [h2]
       rw [hd]
       clear hd
       have hne:((x n:Int) != 0)=true:=by simp;omega
       generalize x n=y at *
       generalize vs B64 x (n+1)=V at *
       go_enter Tryz.func65,Tryz.ntmps65
       go_wp2_with fail
       refine HB.out.mono ?_
       rintro e' w2 ⟨B,rfl,hB,b⟩
       have b2:=b1.trans (b.mono b1.size)
       obtain rfl:=nb_eq hB
       have hrd:∀ p:Addr,p.block=w.heap.size→w2.cell? p=(w.alloc (.cells #[.bool neg,.slice (some ad) (n+1) c,.int .i64 e] 24)).cell? p:=fun p hp=>b.cell (by rw [hp];simp)
       have hE:w2.cell? ⟨w.heap.size,2,none⟩=some (.int .i64 e):=by rw [hrd _ rfl,World.cell?_alloc_at _ _ _ _ rfl];rfl
       clear hrd b hB HB
       generalize nb V=L at *
       by_cases h3:L≤MB
       · have h4:=Lib.hid (show (decide (L≤MB) && decide (fitE e))=decide (fitE e) by simp [h3])
         rw [MB_eq] at h3
         go_wp2_with fail
         refine (fits_any e w2).mono ?_
         rintro e' w3 ⟨rfl,rfl⟩
         go_wp2_with fail
         go_ret
         exact ⟨by rw [h4.out];rfl,b2⟩
       · have h4:=Lib.hid (show (decide (L≤MB) && decide (fitE e))=false by simp [h3])
         rw [MB_eq] at h3
         go_wp2_with fail
         go_ret
         exact ⟨by rw [h4.out];rfl,b2⟩
   · obtain rfl:r=0:=by omega
     rw [show (decide (0=1) && decide (x n≠0) && decide (nb (vs B64 x (n+1))≤MB) && decide (fitE e))=false by simp]
     go_enter Tryz.func65,Tryz.ntmps65
     go_wp2_with fail
     go_ret
     exact ⟨rfl,b1⟩
theorem plain_any (neg:Bool) (A:Option Addr) (n c:Nat) (x:Nat→Nat) (e:Int) (w:World) (ha:Sl w A n c x) (hn:n≤400000) :
 Calls Tryz.prog 65 #[dyv neg A n c e] w (BoolPost w (plainB neg n x e)):=plain_wide neg A n c x e w ha (by omega)
end Go.Proofs.YtmbmohibpkepdaaGreatDoor
namespace Go.Proofs.YtmbmohibpkepdaaGreatDoor
open Go.RowKit
def Blk3 (w:World) (g:Nat) (a b c:Value):Prop:=w.heap[g]?=some (.cells #[a,b,c] 24 (0,0))
theorem Blk3.below {w w':World} {g B:Nat} {a b c:Value} (h:Blk3 w g a b c) (hb:Below B w w') (hg:g < B):Blk3 w' g a b c:=(hb.block g hg).trans h
theorem Blk3.made (w:World) (a b c:Value):Blk3 (w.alloc (.cells #[a,b,c] 24)) w.heap.size a b c:=heap_alloc_new w _
theorem Blk3.cell {w:World} {g:Nat} {a b c:Value} (h:Blk3 w g a b c):w.cell? ⟨g,0,none⟩=some a∧w.cell? ⟨g,1,none⟩=some b∧w.cell? ⟨g,2,none⟩=some c:=by
 unfold Blk3 at h
 simp [World.cell?,h]
theorem Blk3.frozen {w:World} {g:Nat} {a b c:Value} (h:Blk3 w g a b c):w.frozen? ⟨g,0,none⟩=false∧w.frozen? ⟨g,1,none⟩=false∧w.frozen? ⟨g,2,none⟩=false:=by
 unfold Blk3 at h
 simp [World.frozen?,h]
def NotU (v:Value):Prop:=∀ k,v≠.int .u64 k
theorem notU_bool (b:Bool):NotU (.bool b):=fun _ h=>by cases h
theorem notU_slice (A:Option Addr) (n c:Nat):NotU (.slice A n c):=fun _ h=>by cases h
theorem notU_int (e:Int):NotU (.int .i64 e):=fun _ h=>by cases h
theorem Sl.apart {w:World} {A:Option Addr} {n c:Nat} {f:Nat→Nat} {g:Nat} {x y z:Value} (hs:Sl w A n c f) (hb:Blk3 w g x y z) (hx:NotU x) (hy:NotU y) (hz:NotU z):0 < n→∀ ad,A=some ad→ad.block≠g:=fun hn ad e he=>by
 obtain ⟨ad',e',_,_,hc⟩:=hs.at_ (k:=0) hn
 rw [e] at e'
 injection e' with e'
 subst e'
 unfold Blk3 at hb
 rw [show ad.add 0=ad from by simp [Addr.add]] at hc
 simp only [World.cell?,he,hb] at hc
 split at hc
 · cases hc
 · rcases h3:ad.off with _ | _ | _ | k
   · rw [h3] at hc;simp at hc;exact hx _ hc
   · rw [h3] at hc;simp at hc;exact hy _ hc
   · rw [h3] at hc;simp at hc;exact hz _ hc
   · rw [h3] at hc;simp at hc
abbrev put3 (w:World) (g:Nat) (a b c:Value):World:=((w.setCell ⟨g,0,none⟩ a).setCell ⟨g,1,none⟩ b).setCell ⟨g,2,none⟩ c
theorem only_put3 (w:World) (g:Nat) (a b c:Value):Only w (put3 w g a b c) g:=(((Only.refl w g).set_ 0 a).set_ 1 b).set_ 2 c
theorem Num.put3 {w:World} {v:Value} {V g:Nat} {x y z:Value} (h:Num w v V) (hb:Blk3 w g x y z) (hx:NotU x) (hy:NotU y) (hz:NotU z) (a b c:Value):Num (put3 w g a b c) v V:=by
 obtain ⟨A,n,cp,f,hv,hs,hc,he⟩:=h
 exact ⟨A,n,cp,f,hv,hs.only (only_put3 w g a b c) (hs.apart hb hx hy hz),hc,he⟩
theorem below_put3 {B g:Nat} {w0 w:World} (h:Below B w0 w) (hB:B≤g) (hs:B≤w.heap.size) (a b c:Value):Below B w0 (put3 w g a b c):=Only.below h (only_put3 w g a b c) hs hB
theorem num_nil (w:World):Num w (.slice none 0 0) 0:=⟨none,0,0,fun _=>0,rfl,Sl.none_ _ _ _ _,.inl rfl,rfl⟩
end Go.Proofs.YtmbmohibpkepdaaGreatDoor
namespace Go.Proofs.YtmbmohibpkepdaaGreatDoor
open Go.RowKit
def ZeroW (x:Nat→Nat) (n W:Nat):Prop:=W≤n∧(∀ j,j < W→x j=0)∧(W < n→x W≠0)
def ZeroPost (w:World) (x:Nat→Nat) (n:Nat) (e:Ending) (w':World):Prop:=∃ W:Nat,e=.returned (.int .i64 (W:Int))∧W≤n∧Hid (ZeroW x n W)∧w=w'
theorem zerowords_any (A:Option Addr) (n c:Nat) (x:Nat→Nat) (w:World) (ha:Sl w A n c x) (hn:n≤1000000) :
 Calls Tryz.prog 134 #[.slice A n c] w (ZeroPost w x n):=by
 go_enter Tryz.func134,Tryz.ntmps134
 go_wp2_with fail
 go_loop [7] (fun i=>∃ k:Nat,k≤n∧i=.int .i64 (k:Int)∧Hid (∀ j,j < k→x j=0)) (fun i=>n-(intOf i).toNat)
 case atStart=>exact ⟨0,Nat.zero_le _,rfl,Lib.hid fun j hj=>absurd hj (by omega)⟩
 case round =>
  obtain ⟨k,hk,rfl,hz⟩:=hrel
  by_cases hlt:k < n
  · obtain ⟨ad,rfl,hb,hx64,hcell⟩:=ha.at_ hlt
    obtain ⟨y,hy⟩:∃ y,Hid (x k=y):=⟨_,Lib.hid rfl⟩
    rw [hy.out] at hcell hx64
    by_cases h0:y=0
    · subst h0
      go_wp2_with fail
      go_round
      case rel=>exact ⟨k+1,by omega,by go_num,Lib.hid fun j hj=>by
       rcases Nat.lt_or_ge j k with h | h
       · exact hz.out j h
       · obtain rfl:j=k:=by omega
         exact hy.out⟩
      case measure=>simp [intOf];omega
    · have hne:((y:Int) != 0)=true:=by simp;omega
      go_wp2_with fail
      go_ret
      exact ⟨k,rfl,hk,Lib.hid ⟨hk,hz.out,fun _=>by rw [hy.out];exact h0⟩,rfl⟩
  · obtain rfl:k=n:=by omega
    go_wp2_with fail
    go_ret
    exact ⟨k,rfl,hk,Lib.hid ⟨hk,hz.out,fun h=>absurd h (by omega)⟩,rfl⟩
theorem low_zero {x:Nat→Nat} {n W L:Nat} (hz:ZeroW x n W) (hL:n=W+(L+1)):vs B64 x n=vs B64 (fun j=>x (W+j)) (L+1)*2^(64*W):=by
 have:∀ k,k≤W→vs B64 x k=0:=fun k=>by
  induction k with
  | zero=>intro _;rfl
  | succ k ih=>intro hk;rw [vs_succ,ih (by omega),hz.2.1 k (by omega),Nat.zero_mul]
 rw [hL,vs_add,this W (Nat.le_refl _),Nat.zero_add,Nat.mul_comm,B64_pow,← Nat.pow_mul]
theorem low_od {y:Nat→Nat} {L z T:Nat} (h:y 0=T*2^z) (hT:T%2=1) (hz:z < 64):∃ U,vs B64 y (L+1)=U*2^z∧U%2=1:=by
 rw [vs_cons,h]
 refine ⟨T+2^(64-z)*vs B64 (fun j=>y (j+1)) L,?_,?_⟩
 · rw [Nat.add_mul,B64_pow,show (2:Nat)^64=2^(64-z)*2^z by rw [← Nat.pow_add];congr 1;omega]
   have:2^(64-z)*2^z*vs (2^(64-z)*2^z) (fun j=>y (j+1)) L=2^(64-z)*vs (2^(64-z)*2^z) (fun j=>y (j+1)) L*2^z:=by ac_rfl
   omega
 · have e:(2:Nat)^(64-z)=2*2^(63-z):=by rw [← Nat.pow_succ'];congr 1;omega
   rw [e,Nat.mul_assoc,Nat.add_mul_mod_self_left];exact hT
theorem make_spec {x:Nat→Nat} {n W L z T:Nat} (neg:Bool) (e:Int) (hz:ZeroW x n W) (hL:n=W+(L+1)) (h:x W=T*2^z) (hT:T%2=1) (hz64:z < 64) :
 mkD neg (vs B64 x n) e=if nb (vs B64 (fun j=>x (W+j)) (L+1))-z≤MB∧fitE (e+((W:Int)*64+(z:Int))) then ⟨true,neg,vs B64 (fun j=>x (W+j)) (L+1)/2^z,e+((W:Int)*64+(z:Int))⟩ else DR.no:=by
 obtain ⟨U,hU,hU1⟩:=low_od (y:=fun j=>x (W+j)) (L:=L) (by simpa using h) hT hz64
 have hV:=low_zero hz hL
 have hV2:vs B64 x n=U*2^(z+64*W):=by rw [hV,hU,Nat.mul_assoc,← Nat.pow_add]
 obtain ⟨h1,h2⟩:=od_unique hV2 hU1
 have h0:¬ vs B64 x n=0:=by
  rw [hV2];have:=Nat.mul_pos (show 0 < U by omega) (Nat.two_pow_pos (z+64*W));omega
 have h3:vs B64 (fun j=>x (W+j)) (L+1)/2^z=U:=by rw [hU];exact Nat.mul_div_cancel _ (Nat.two_pow_pos z)
 have h4:nb (vs B64 (fun j=>x (W+j)) (L+1))-z=nb U:=by rw [hU,nb_mul_pow (by omega),Nat.add_sub_cancel]
 unfold mkD
 rw [if_neg h0,h1,h2,h3,h4]
 rw [show ((z+64*W:Nat):Int)=(W:Int)*64+(z:Int) by omega]
def DPost (w:World) (r:DR) (e:Ending) (w':World):Prop:=∃ s,e=.returned (.tuple #[.agg #[.bool r.neg,s,.int .i64 r.e],.bool r.ok])∧Num w' s r.m∧Below w.heap.size w w'
set_option maxHeartbeats 1000000 in
theorem make_any (neg:Bool) (A:Option Addr) (n c:Nat) (x:Nat→Nat) (e:Int) (w:World) (ha:Sl w A n c x) (hn:n≤400000) (hT:Tab w) (he1:-9223372036854775808≤e) (he2:e≤9223372036854775807) :
 Calls Tryz.prog 75 #[.bool neg,.slice A n c,.int .i64 e] w (DPost w (mkD neg (vs B64 x n) e)):=by
 have b0:Below w.heap.size w (w.alloc (.cells #[.bool false,.slice none 0 0,.int .i64 0] 24)):=(Below.refl _ w).alloc (Nat.le_refl _) _
 have hnil:Num (w.alloc (.cells #[.bool false,.slice none 0 0,.int .i64 0] 24)) (.slice none 0 0) 0:=⟨none,0,0,x,rfl,Sl.none_ _ _ _ _,.inl rfl,rfl⟩
 have Z:=Lib.hid (zerowords_any A n c x _ (ha.below b0) (by omega))
 go_enter Tryz.func75,Tryz.ntmps75
 go_wp2_with fail
 refine Z.out.mono ?_
 rintro e' w1 ⟨W,rfl,hW,hz,rfl⟩
 rcases Nat.lt_or_ge W n with hlt | hge
 · have hcap:=ha.cap
   obtain ⟨L,rfl⟩:∃ L,n=W+(L+1):=⟨n-W-1,by omega⟩
   obtain ⟨C,rfl⟩:∃ C,c=W+(C+1):=⟨c-W-1,by omega⟩
   obtain ⟨ad,rfl,hab,hxW,hcW⟩:=ha.at_ hlt
   have hab1:(ad.add W).block < w.heap.size:=by rw [block_of_add];exact hab
   have e1:W+(L+1)-W=L+1:=by omega
   have e2:W+(C+1)-W=C+1:=by omega
   have hl0:((L:Int)+1 == 0)=false:=by simp;omega
   have hsy:Sl w (some (ad.add W)) (L+1) (C+1) (fun j=>x (W+j)):=by
    have h:=ha.drop W (by omega)
    rw [e1,e2] at h;exact h
   have hx0:x W≠0:=hz.out.2.2 hlt
   have hB0:=Blk3.made w (.bool false) (.slice none 0 0) (.int .i64 0)
   have hT0:=hT.below b0
   have hgs:w.heap.size < (w.alloc (.cells #[.bool false,.slice none 0 0,.int .i64 0] 24)).heap.size:=by simp
   have TZ:=Lib.hid (tz_any (x W) hxW hx0 _ hT0)
   have BT:=Lib.hid (bits_any _ _ _ _ _ (hsy.below b0) (by omega))
   have bI:Below (w.heap.size+1) (w.alloc (.cells #[.bool false,.slice none 0 0,.int .i64 0] 24)) (w.alloc (.cells #[.bool false,.slice none 0 0,.int .i64 0] 24)):=Below.refl _ _
   go_wp2_with fail
   refine TZ.out.mono ?_
   rintro e' w1 ⟨z,T,rfl,hz64,hzT,rfl⟩
   have SP:=Lib.hid (make_spec neg e hz.out rfl hzT.out.1 hzT.out.2 hz64)
   clear hab hab1 hcW TZ
   by_cases hE:e≤262144
   · go_wp2_with fail
     refine BT.out.mono ?_
     rintro e' w2 ⟨B,rfl,hB,b⟩
     obtain rfl:=nb_eq hB
     have b2:=b0.trans (b.mono b0.size)
     have k2:=hB0.below b hgs
     have s2:=(hsy.below b0).below b
     have hB1:=bits_le hB (vs_lt hsy.small)
     have hw2:=b.size
     clear b hB BT hB0
     have hc2:=k2.cell
     have hf2:=k2.frozen
     obtain ⟨hc20,hc21,hc22⟩:=hc2
     obtain ⟨hf20,hf21,hf22⟩:=hf2
     generalize nb (vs B64 (fun j=>x (W+j)) (L+1))=Q at *
     by_cases hQ:Q-z≤MB
     · have hQ':¬ 16384 < (Q:Int)-(z:Int):=by rw [MB_eq] at hQ;omega
       go_wp2_with fail
       refine (fits_any _ w2).mono ?_
       rintro e' w3 ⟨rfl,rfl⟩
       by_cases hF:fitE (e+((W:Int)*64+(z:Int)))
       · have hd:=Lib.hid (SP.out.trans (if_pos ⟨hQ,hF⟩))
         have hFb:decide (fitE (e+((W:Int)*64+(z:Int))))=true:=decide_eq_true hF
         have SH:=Lib.hid (shr_any _ _ _ _ z w2 s2 (by omega) (by omega))
         go_wp2_with fail
         refine SH.out.mono ?_
         rintro e' w4 ⟨v4,rfl,n4,b⟩
         have b4:=b2.trans (b.mono b2.size)
         have k4:=k2.below b (Nat.lt_of_lt_of_le hgs hw2)
         obtain ⟨hc40,hc41,hc42⟩:=k4.cell
         obtain ⟨hf40,hf41,hf42⟩:=k4.frozen
         clear hc20 hc21 hc22 hf20 hf21 hf22 k2 b
         obtain ⟨A4,p4,c4,f4,rfl,m4⟩:=n4
         go_wp2_with fail
         rw [hd.out]
         refine bodyPost_ret (v:=.tuple #[.agg #[.bool neg,.slice A4 p4 c4,.int .i64 (e+((W:Int)*64+(z:Int)))],.bool true]) (by simp [results,Tryz.results75,go_sem,hc40,hc41,hc42]) rfl
          ⟨_,rfl,Num.put3 ⟨A4,p4,c4,f4,rfl,m4⟩ k4 (notU_bool _) (notU_slice _ _ _) (notU_int _) _ _ _,below_put3 b4 (Nat.le_refl _) b4.size _ _ _⟩
       · have hd:=Lib.hid (SP.out.trans (if_neg (fun h=>hF h.2)))
         have hFb:decide (fitE (e+((W:Int)*64+(z:Int))))=false:=decide_eq_false hF
         go_wp2_with fail
         rw [hd.out]
         refine bodyPost_ret (v:=.tuple #[.agg #[.bool false,.slice none 0 0,.int .i64 0],.bool false]) (by simp [results,Tryz.results75,go_sem,hc20,hc21,hc22]) rfl ⟨_,rfl,num_nil _,below_put3 b2 (Nat.le_refl _) b2.size _ _ _⟩
     · have hd:=Lib.hid (SP.out.trans (if_neg (fun h=>hQ h.1)))
       have hQ':16384 < (Q:Int)-(z:Int):=by rw [MB_eq] at hQ;omega
       go_wp2_with fail
       rw [hd.out]
       refine bodyPost_ret (v:=.tuple #[.agg #[.bool false,.slice none 0 0,.int .i64 0],.bool false]) (by simp [results,Tryz.results75,go_sem,hc20,hc21,hc22]) rfl ⟨_,rfl,num_nil _,below_put3 b2 (Nat.le_refl _) b2.size _ _ _⟩
   · have hd:=Lib.hid (SP.out.trans (if_neg (fun h=>by have:=h.2.2;omega)))
     go_wp2_with fail
     rw [hd.out]
     refine bodyPost_ret (v:=.tuple #[.agg #[.bool false,.slice none 0 0,.int .i64 0],.bool false]) (by simp [results,Tryz.results75,go_sem]) rfl ⟨_,rfl,hnil,b0⟩
 · obtain rfl:W=n:=by omega
   have hv0:=Lib.hid (show vs B64 x W=0 by
    have:∀ k,k≤W→vs B64 x k=0:=fun k=>by
     induction k with
     | zero=>intro _;rfl
     | succ k ih=>intro hk;rw [vs_succ,ih (by omega),hz.out.2.1 k (by omega),Nat.zero_mul]
    exact this W (Nat.le_refl _))
   have hd:=Lib.hid (show mkD neg (vs B64 x W) e=DR.zero by rw [hv0.out];rfl)
   by_cases hcW:c=W
   · subst hcW
     go_wp2_with fail
     rw [hd.out]
     refine bodyPost_ret (v:=.tuple #[.agg #[.bool false,.slice none 0 0,.int .i64 0],.bool true]) (by simp [results,Tryz.results75,go_sem]) rfl ⟨_,rfl,hnil,b0⟩
   · go_wp2_with fail
     rw [hd.out]
     refine bodyPost_ret (v:=.tuple #[.agg #[.bool false,.slice none 0 0,.int .i64 0],.bool true]) (by simp [results,Tryz.results75,go_sem]) rfl ⟨_,rfl,hnil,b0⟩
end Go.Proofs.YtmbmohibpkepdaaGreatDoor
namespace Go.Proofs.YtmbmohibpkepdaaGreatDoor
open Go.RowKit
theorem nb_words {V n:Nat} (h:V < B64^n):nb V≤64*n:=(nb_le_iff _ _).2 (by rw [Nat.pow_mul,← B64_pow];exact h)
theorem wrap_id {z:Int} (h1:-9223372036854775808≤z) (h2:z≤9223372036854775807):IntKind.i64.wrap z=z:=by
 rw [IntKind.wrap_i64];omega
theorem isZero_wide (neg:Bool) (A:Option Addr) (n c:Nat) (e:Int) (w:World) (hn:n≤70368744177664) :
 Calls Tryz.prog 119 #[dyv neg A n c e] w (BoolPost w (decide (n=0))):=by
 have b1:Below w.heap.size w (w.alloc (.cells #[.bool neg,.slice A n c,.int .i64 e] 24)):=(Below.refl _ w).alloc (Nat.le_refl _) _
 rcases n with _ | n
 · go_enter Tryz.func119,Tryz.ntmps119
   go_wp2_with fail
   go_ret
   exact ⟨rfl,b1⟩
 · have h0:((n:Int)+1 == 0)=false:=by simp;omega
   go_enter Tryz.func119,Tryz.ntmps119
   go_wp2_with fail
   go_ret
   exact ⟨by simp,b1⟩
theorem isZero_any (neg:Bool) (A:Option Addr) (n c:Nat) (e:Int) (w:World) (hn:n≤1000000) :
 Calls Tryz.prog 119 #[dyv neg A n c e] w (BoolPost w (decide (n=0))):=isZero_wide neg A n c e w (by omega)
def sgn (n:Nat) (neg:Bool):Int:=if n=0 then 0 else if neg then -1 else 1
def IntPost (w:World) (r:Int) (e:Ending) (w':World):Prop:=e=.returned (.int .i64 r)∧Below w.heap.size w w'
theorem sign_wide (neg:Bool) (A:Option Addr) (n c:Nat) (e:Int) (w:World) (hn:n≤70368744177664) :
 Calls Tryz.prog 66 #[dyv neg A n c e] w (IntPost w (sgn n neg)):=by
 have b1:Below w.heap.size w (w.alloc (.cells #[.bool neg,.slice A n c,.int .i64 e] 24)):=(Below.refl _ w).alloc (Nat.le_refl _) _
 have k1:=Blk3.made w (.bool neg) (.slice A n c) (.int .i64 e)
 have hgs:w.heap.size < (w.alloc (.cells #[.bool neg,.slice A n c,.int .i64 e] 24)).heap.size:=by simp
 have Z:=Lib.hid (isZero_wide neg A n c e (w.alloc (.cells #[.bool neg,.slice A n c,.int .i64 e] 24)) hn)
 rcases n with _ | n
 · go_enter Tryz.func66,Tryz.ntmps66
   go_wp2_with fail
   refine Z.out.mono ?_
   rintro e' w2 ⟨rfl,b⟩
   have b2:=b1.trans (b.mono b1.size)
   go_wp2_with fail
   go_ret
   exact ⟨rfl,b2⟩
 · rw [show decide (n+1=0)=false by simp] at Z
   cases neg
   · go_enter Tryz.func66,Tryz.ntmps66
     go_wp2_with fail
     refine Z.out.mono ?_
     rintro e' w2 ⟨rfl,b⟩
     have b2:=b1.trans (b.mono b1.size)
     obtain ⟨c0,c1,c2⟩:=(k1.below b hgs).cell
     clear b k1
     go_wp2_with fail
     go_ret
     exact ⟨rfl,b2⟩
   · go_enter Tryz.func66,Tryz.ntmps66
     go_wp2_with fail
     refine Z.out.mono ?_
     rintro e' w2 ⟨rfl,b⟩
     have b2:=b1.trans (b.mono b1.size)
     obtain ⟨c0,c1,c2⟩:=(k1.below b hgs).cell
     clear b k1
     go_wp2_with fail
     go_ret
     exact ⟨rfl,b2⟩
theorem sign_any (neg:Bool) (A:Option Addr) (n c:Nat) (e:Int) (w:World) (hn:n≤1000000) :
 Calls Tryz.prog 66 #[dyv neg A n c e] w (IntPost w (sgn n neg)):=sign_wide neg A n c e w (by omega)
def bitsFitB (p:Int):Bool:=decide (1≤p) && decide (p≤8192)
theorem bitsFit_any (p:Int) (w:World):Calls Tryz.prog 182 #[.int .i64 p] w fun r w'=>r=.returned (.bool (bitsFitB p))∧w=w':=by
 by_cases h1:1≤p
 · by_cases h2:p≤8192
   · rw [show bitsFitB p=true by simp [bitsFitB,h1,h2]]
     go_enter Tryz.func182,Tryz.ntmps182
     go_wp2_with fail
     go_ret
     exact ⟨rfl,rfl⟩
   · rw [show bitsFitB p=false by simp [bitsFitB,h2]]
     go_enter Tryz.func182,Tryz.ntmps182
     go_wp2_with fail
     go_ret
     exact ⟨rfl,rfl⟩
 · rw [show bitsFitB p=false by simp [bitsFitB,h1]]
   go_enter Tryz.func182,Tryz.ntmps182
   go_wp2_with fail
   go_ret
   exact ⟨rfl,rfl⟩
set_option maxHeartbeats 1000000 in
theorem top_any (neg:Bool) (A:Option Addr) (n c:Nat) (x:Nat→Nat) (e:Int) (w:World) (ha:Sl w A n c x) (hn:n≤400000) (he1:-1000000000≤e) (he2:e≤1000000000) :
 Calls Tryz.prog 121 #[dyv neg A n c e] w (IntPost w (e+(nb (vs B64 x n):Int))):=by
 have b1:Below w.heap.size w (w.alloc (.cells #[.bool neg,.slice A n c,.int .i64 e] 24)):=(Below.refl _ w).alloc (Nat.le_refl _) _
 have hnb:=nb_words (vs_lt ha.small)
 have s1:=ha.below b1
 obtain ⟨c0,c1,c2⟩:=(Blk3.made w (.bool neg) (.slice A n c) (.int .i64 e)).cell
 go_enter Tryz.func121,Tryz.ntmps121
 go_wp2_with fail
 generalize w.alloc (.cells #[.bool neg,.slice A n c,.int .i64 e] 24)=w1 at *
 go_region_held3 (fun w'=>w'.cell? ⟨w.heap.size,1,none⟩=some (.slice A n c)∧w'.cell? ⟨w.heap.size,2,none⟩=some (.int .i64 e)) (go_keep)
  (first | (go_at_call 117;refine (bits_same A n c x _ (by first | exact s1 | exact s1.drew) (by omega)).mono ?_;rintro e' w2 ⟨B,rfl,hB,rfl⟩))
 obtain rfl:=nb_eq hB
 rw [wrap_id (by omega) (by omega)]
 go_wp2_with fail
 go_ret
 exact ⟨rfl,b1.drew⟩
end Go.Proofs.YtmbmohibpkepdaaGreatDoor
