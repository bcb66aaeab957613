/-
 volvelleref04.Narrow: how wide a span is.
-/
import Derived.Test.YtmbmohibpkepdaaGreatDoorPlEGDy5
import Derived.Test.YtmbmohibpkepdaaGreatDoorPlEGDy13
import Derived.Test.YtmbmohibpkepdaaGreatDoorPlEGSp9
import Derived.Test.YtmbmohibpkepdaaGreatDoorPlEGSe1
namespace Go.Proofs.YtmbmohibpkepdaaGreatDoor
open Go.RowKit
def lo2 (r s:DR):Int:=if r.m=0 then (if s.m=0 then 0 else s.e) else if s.m=0 then r.e else min r.e s.e
def hi2 (r s:DR):Int:=if r.m=0 then (if s.m=0 then 0 else s.e) else if s.m=0 then r.e else max r.e s.e
def part2 (r s:DR) (sg:Bool) (lo:Int):Nat:=(if r.neg=sg then r.m*2^(r.e-lo).toNat else 0)+(if s.neg=sg then s.m*2^(s.e-lo).toNat else 0)
def wid2 (r s:DR):DR :=
 if hi2 r s-lo2 r s≤262144 then
  (if part2 r s true (lo2 r s)≤part2 r s false (lo2 r s) then mkD false (part2 r s false (lo2 r s)-part2 r s true (lo2 r s)) (lo2 r s) else mkD true (part2 r s true (lo2 r s)-part2 r s false (lo2 r s)) (lo2 r s))
 else DR.no
def dl2 (r s:DR) (A B:Option Addr) (n c m d:Nat) (x y:Nat→Nat):DL :=
 ⟨fun j=>if j=0 then r.neg else s.neg,fun j=>if j=0 then A else B,fun j=>if j=0 then n else m,fun j=>if j=0 then c else d,fun j=>if j=0 then x else y,fun j=>if j=0 then r.e else s.e⟩
theorem wid2_eq {r s:DR} {A B:Option Addr} {n c m d:Nat} {x y:Nat→Nat} (hx:r.m=vs B64 x n) (hy:s.m=vs B64 y m) (h1:n=0 ↔ r.m=0) (h2:m=0 ↔ s.m=0):sumD true (dl2 r s A B n c m d x y) 2=wid2 r s:=by
 have hl:loOf (dl2 r s A B n c m d x y) 2=lo2 r s:=by
  unfold loOf lo2
  by_cases e1:n=0 <;> by_cases e2:m=0 <;> simp [ext,dl2,e1,e2,h1.1,h2.1,(not_congr h1).1,(not_congr h2).1]
 have hh:hiOf (dl2 r s A B n c m d x y) 2=hi2 r s:=by
  unfold hiOf hi2
  by_cases e1:n=0 <;> by_cases e2:m=0 <;> simp [ext,dl2,e1,e2,h1.1,h2.1,(not_congr h1).1,(not_congr h2).1]
 have hp:∀ sg lo,part (dl2 r s A B n c m d x y) sg lo 2=part2 r s sg lo:=fun sg lo=>by
  unfold part2
  rw [hx,hy]
  simp [part,dl2,DL.v]
 unfold sumD wid2
 rw [hl,hh,hp,hp]
 simp
theorem rsum_two {r s:DR} {A B:Option Addr} {n c m d:Nat} (w:World) (ha:DIn w A n c r) (hb:DIn w B m d s) (h1:r.ok=true) (h2:s.ok=true) (hT:Tab w) :
 Calls Tryz.prog 83 #[.slice (some ⟨w.heap.size,0,none⟩) 2 2] (w.alloc (.cells #[.bool r.neg,.slice A n c,.int .i64 r.e,.bool s.neg,.slice B m d,.int .i64 s.e] 24))
  (DP (w.alloc (.cells #[.bool r.neg,.slice A n c,.int .i64 r.e,.bool s.neg,.slice B m d,.int .i64 s.e] 24)) (wid2 r s)):=by
 have pa:=ha.plain h1
 have pb:=hb.plain h2
 have z1:=ha.len0 h1
 have z2:=hb.len0 h2
 obtain ⟨x,a1,a2,a3,a4⟩:=ha
 obtain ⟨y,b1,b2,b3,b4⟩:=hb
 have bB:=alloc_bel w (.cells #[.bool r.neg,.slice A n c,.int .i64 r.e,.bool s.neg,.slice B m d,.int .i64 s.e] 24)
 have k:=KC.made 24 w #[.bool r.neg,.slice A n c,.int .i64 r.e,.bool s.neg,.slice B m d,.int .i64 s.e]
 have hL:Ls (w.alloc (.cells #[.bool r.neg,.slice A n c,.int .i64 r.e,.bool s.neg,.slice B m d,.int .i64 s.e] 24)) (some ⟨w.heap.size,0,none⟩) 2 2 (dl2 r s A B n c m d x y):=by
  refine ⟨Nat.le_refl _,fun _=>⟨_,rfl,k.2,fun j hj=>?_⟩,fun j hj=>?_⟩
  · have:j=0∨j=1:=by omega
    rcases this with rfl | rfl
    · exact ⟨k.at_ 0 _ rfl,k.at_ 1 _ rfl,k.at_ 2 _ rfl⟩
    · exact ⟨k.at_ 3 _ rfl,k.at_ 4 _ rfl,k.at_ 5 _ rfl⟩
  · have:j=0∨j=1:=by omega
    rcases this with rfl | rfl
    · exact a1.below bB
    · exact b1.below bB
 have hall:allP (dl2 r s A B n c m d x y) 2=true:=by
  simp only [allP,Bool.true_and,Bool.and_eq_true]
  exact ⟨by rw [← h1,a4];rfl,by rw [← h2,b4];rfl⟩
 have h:=rsum_any _ 2 2 _ _ hL (by omega) (fun j hj=>by
  have:j=0∨j=1:=by omega
  rcases this with rfl | rfl
  · exact a2
  · exact b2) (hT.below bB) (fun j hj=>by
  have:j=0∨j=1:=by omega
  rcases this with rfl | rfl
  · have:=pa.e1;have:=pa.e2;exact ⟨by show -9223372036854775808≤r.e;omega,by show r.e≤9223372036854775807;omega⟩
  · have:=pb.e1;have:=pb.e2;exact ⟨by show -9223372036854775808≤s.e;omega,by show s.e≤9223372036854775807;omega⟩)
 rw [hall,wid2_eq a3 b3 z1 z2] at h
 exact h.mono fun _ _ h=>h.dp
theorem rneg_D {r:DR} {A:Option Addr} {n c:Nat} (w:World) (ha:DIn w A n c r) (hT:Tab w):Calls Tryz.prog 82 #[dyv r.neg A n c r.e] w (DP w (negI r)):=by
 have da:=ha
 obtain ⟨x,a1,a2,a3,a4⟩:=ha
 have h:=rneg_any r.neg A n c x r.e w a1 a2 hT
 rw [neg_len da a3 a4] at h
 exact h.mono fun _ _ h=>h.dp
set_option maxRecDepth 8000 in
set_option maxHeartbeats 4000000 in
theorem narrow_yes {lo hi:DR} {A B:Option Addr} {n c m d:Nat} (z:Int) (w:World) (ha:DIn w A n c lo) (hb:DIn w B m d hi) (hT:Tab w) (h1:lo.ok=true) (h2:hi.ok=true) (hr:rightI lo hi=true)
 (hs:(wid2 hi (negI lo)).ok=true) (hc:cmpI2 (wid2 hi (negI lo)) ⟨true,false,1,z⟩≤0) (hz1:-262144≤z) (hz2:z≤262144) :
 Calls Tryz.prog 40 #[spv lo.neg A n c lo.e hi.neg B m d hi.e,.int .i64 z] w (TruePost w):=by
 have P0:Pu w (w.alloc (co6 (.bool lo.neg) (.slice A n c) (.int .i64 lo.e) (.bool hi.neg) (.slice B m d) (.int .i64 hi.e))) [(31,w.heap.size,#[.bool lo.neg,.slice A n c,.int .i64 lo.e,.bool hi.neg,.slice B m d,.int .i64 hi.e])] []:=Pu.alloc (⟨Below.refl _ w,trivial,trivial⟩:Pu w w [] []) 31 #[.bool lo.neg,.slice A n c,.int .i64 lo.e,.bool hi.neg,.slice B m d,.int .i64 hi.e]
 have q1:(negI lo).ok=true:=by unfold negI;rw [h1];simp only [if_true];split <;> rfl
 have hlp:=ha.plain h1
 have hp1:(negI lo).ok=true→PlainR (negI lo):=fun h=>by
  have:=plIf_negI (r:=lo) (fun _=>hlp) h
  exact plainR_of this
 obtain ⟨r,hre⟩:∃ r,r=negI lo:=⟨_,rfl⟩
 obtain ⟨s,hse⟩:∃ s,s=wid2 hi (negI lo):=⟨_,rfl⟩
 rw [← hse] at hs hc
 rw [← hre] at q1 hp1 hse
 have CN:Hid (∀ w',Below w.heap.size w w'→Calls Tryz.prog 82 #[dyv lo.neg A n c lo.e] w' (DP w' r)):=Lib.hid (fun w' b=>by rw [hre];exact rneg_D w' (ha.below b) (hT.below b))
 have CS:Hid (∀ w' X x y,Below w.heap.size w w'→Num w' (.slice X x y) r.m→Calls Tryz.prog 83 #[.slice (some ⟨w'.heap.size,0,none⟩) 2 2] (w'.alloc (.cells #[.bool hi.neg,.slice B m d,.int .i64 hi.e,.bool r.neg,.slice X x y,.int .i64 r.e] 24)) (DP (w'.alloc (.cells #[.bool hi.neg,.slice B m d,.int .i64 hi.e,.bool r.neg,.slice X x y,.int .i64 r.e] 24)) s)):=Lib.hid (fun w' X x y b h=>by rw [hse];exact rsum_two w' (hb.below b) (DIn.of_num h (hp1 q1).pl q1) h2 q1 (hT.below b))
 have CR:Hid (∀ w',Below w.heap.size w w'→Calls Tryz.prog 24 #[spv lo.neg A n c lo.e hi.neg B m d hi.e] w' fun o w2=>o=.returned (.bool true)∧Below w'.heap.size w' w2):=Lib.hid (fun w' b=>by
  obtain ⟨x,a1,a2,a3,a4⟩:=ha.below b
  obtain ⟨y,b1,b2,b3,b4⟩:=hb.below b
  have h:=rright_any lo.neg hi.neg A B n c m d x y lo.e hi.e w' a1 b1 a2 b2
  rw [show rightB (plainB lo.neg n x lo.e && plainB hi.neg m y hi.e) lo.neg hi.neg (vs B64 x n) (vs B64 y m) lo.e hi.e=true by rw [← a3,← a4,← b3,← b4];exact hr] at h
  exact h)
 have hsp:plainV s.neg s.m s.e=true:=by
  have:PlIf s:=by
   rw [hse]
   unfold wid2
   split
   · split <;> exact plIf_mk _ _ _
   · exact plIf_no
  exact this hs
 have CC:Hid (∀ w' X x y Y,Num w' (.slice X x y) s.m→Num w' (.slice (some ⟨Y,0,none⟩) 1 1) 1→Calls Tryz.prog 25 #[dyv s.neg X x y s.e,dyv false (some ⟨Y,0,none⟩) 1 1 z] w' fun o w2=>∃ k:Int,k≤0∧o=.returned (.tuple #[.int .i64 k,.bool true])∧Below w'.heap.size w' w2):=Lib.hid (fun w' X x y Y h h'=>by
  have hone:plainV false 1 z=true:=by
   unfold plainV
   rw [if_neg (by omega)]
   have h1:nb 1=1:=by decide
   have h2:fitE z:=⟨hz1,hz2⟩
   simp [h1,MB,h2]
  have k:=rcmpI (r:=s) (s:=⟨true,false,1,z⟩) w' (DIn.of_num h hsp hs) (DIn.of_num h' hone rfl)
  rw [hs] at k
  refine k.mono ?_
  rintro e w2 ⟨rfl,b⟩
  exact ⟨_,hc,rfl,b⟩)
 have k0:=P0.ks.1.at_ 0 _ rfl
 have k1:=P0.ks.1.at_ 1 _ rfl
 have k2:=P0.ks.1.at_ 2 _ rfl
 have k3:=P0.ks.1.at_ 3 _ rfl
 have k4:=P0.ks.1.at_ 4 _ rfl
 have k5:=P0.ks.1.at_ 5 _ rfl
 have HP0:=Lib.hid P0
 have hsok:=Lib.hid hs
 clear hlp hp1 hre hse hs hc hr ha hb hT h1 h2 P0 hsp
 go_enter Tryz.func40,Tryz.ntmps40
 go_wp2_with fail
 refine (CN.out _ HP0.out.bel).mono ?_
 have P:=HP0.out
 clear k0 k1 k2 k3 k4 k5 HP0 CN
 generalize w.alloc (co6 (.bool lo.neg) (.slice A n c) (.int .i64 lo.e) (.bool hi.neg) (.slice B m d) (.int .i64 hi.e))=w1 at *
 rintro e' w2 ⟨X1,x1,y1,rfl,N1,b⟩
 have P2:=(P.below b).num N1
 clear P N1 b
 rw [q1]
 have P3:=P2.alloc 24 #[.bool r.neg,.slice X1 x1 y1,.int .i64 r.e]
 have k0:=P2.ks.1.at_ 0 _ rfl
 have k1:=P2.ks.1.at_ 1 _ rfl
 have k2:=P2.ks.1.at_ 2 _ rfl
 have k3:=P2.ks.1.at_ 3 _ rfl
 have k4:=P2.ks.1.at_ 4 _ rfl
 have k5:=P2.ks.1.at_ 5 _ rfl
 have hl:=P2.ks.1.2
 have CSx:=CS.out (w2.alloc (.cells #[.bool r.neg,.slice X1 x1 y1,.int .i64 r.e] 24)) X1 x1 y1 P3.bel P3.ns.1
 rw [show (w2.alloc (.cells #[.bool r.neg,.slice X1 x1 y1,.int .i64 r.e] 24)).heap.size=w2.heap.size+1 by simp] at CSx
 have HCS:=Lib.hid CSx
 have HP3:=Lib.hid P3
 clear CS CSx P3
 go_wp2_with fail
 refine HCS.out.mono ?_
 clear HCS k0 k1 k2 k3 k4 k5 hl
 have P4:=HP3.out.below (alloc_bel (w2.alloc (.cells #[.bool r.neg,.slice X1 x1 y1,.int .i64 r.e] 24)) (.cells #[.bool hi.neg,.slice B m d,.int .i64 hi.e,.bool r.neg,.slice X1 x1 y1,.int .i64 r.e] 24))
 generalize (w2.alloc (.cells #[.bool r.neg,.slice X1 x1 y1,.int .i64 r.e] 24)).alloc (.cells #[.bool hi.neg,.slice B m d,.int .i64 hi.e,.bool r.neg,.slice X1 x1 y1,.int .i64 r.e] 24)=w4 at *
 rintro e' w5 ⟨X5,x5,y5,rfl,N5,b5⟩
 have P5:=(P4.below b5).num N5
 clear P4 HP3 N5 b5 P2
 rw [hsok.out]
 have P6:=P5.alloc 24 #[.bool s.neg,.slice X5 x5 y5,.int .i64 s.e]
 have k0:=P5.ks.2.1.at_ 0 _ rfl
 have k1:=P5.ks.2.1.at_ 1 _ rfl
 have k2:=P5.ks.2.1.at_ 2 _ rfl
 have k3:=P5.ks.2.1.at_ 3 _ rfl
 have k4:=P5.ks.2.1.at_ 4 _ rfl
 have k5:=P5.ks.2.1.at_ 5 _ rfl
 have hl:=P5.ks.2.1.2
 have HP6:=Lib.hid P6
 have hz5:w.heap.size≠w5.heap.size:=Nat.ne_of_lt hl
 clear P5 P6
 go_wp2_with fail
 refine (CR.out _ HP6.out.bel).mono ?_
 clear CR k0 k1 k2 k3 k4 k5 hl hz5
 have P6:=HP6.out
 generalize w5.alloc (.cells #[.bool s.neg,.slice X5 x5 y5,.int .i64 s.e] 24)=w6 at *
 rintro e' w7 ⟨rfl,b7⟩
 have P7:=P6.below b7
 clear P6 HP6 b7
 have k0:=P7.ks.1.at_ 0 _ rfl
 have k1:=P7.ks.1.at_ 1 _ rfl
 have k2:=P7.ks.1.at_ 2 _ rfl
 have hl:=P7.ks.1.2
 have S1:=one_slz 51 w7 1 w7.heap.size 1 (by unfold B64;omega) (by omega) rfl
 have N1:Num (w7.alloc (.cells #[.int .u64 1] 51)) (.slice (some ⟨w7.heap.size,0,none⟩) 1 1) 1:=⟨_,_,_,_,rfl,S1,.inr (show 1≠0 by omega),vs_one _ _⟩
 have P8:=P7.below (alloc_bel w7 (.cells #[.int .u64 1] 51))
 have CCx:=CC.out _ _ _ _ _ P8.ns.1 N1
 have HCC:=Lib.hid CCx
 have HB8:=Lib.hid P8.bel
 clear CC CCx S1 N1 P8 P7
 go_wp2_with fail
 refine HCC.out.mono ?_
 clear HCC k0 k1 k2 hl
 generalize w7.alloc (.cells #[.int .u64 1] 51)=w8 at *
 rintro e' w9 ⟨k,hk,rfl,b9⟩
 have B9:=below_step HB8.out b9
 go_wp2_with fail
 go_ret
 exact ⟨rfl,B9⟩
end Go.Proofs.YtmbmohibpkepdaaGreatDoor
