/-
 expo: isZero, size, notAbove, isLone, finer.
 expo: half.
 What expo's functions of one number answer, by rational numbers: it holds the function, and is narrow.
 What expo's sine and cosine of one number answer, by rational numbers.
 expo: expAt.
 A calc, and a finer one of a call's own: the state of both.
-/
import Derived.Test.YtmbmohibpkepdaaGreatDoorPlEGEx3
import Derived.Test.YtmbmohibpkepdaaGreatDoorPlEGSp6
import Derived.Test.YtmbmohibpkepdaaGreatDoorPlEGSp4
import Derived.Test.YtmbmohibpkepdaaGreatDoorPlEGSp9
import Derived.Test.YtmbmohibpkepdaaGreatDoorPlEGSp7
import Derived.Test.YtmbmohibpkepdaaGreatDoorPlEGSp5
import Derived.Test.YtmbmohibpkepdaaGreatDoorPlEGSe1
import Derived.Test.YtmbmohibpkepdaaGreatDoorPlEGEx4
import Derived.Test.YtmbmohibpkepdaaGreatDoorPlEGEx5
namespace Go.Proofs.YtmbmohibpkepdaaGreatDoor
open Go.RowKit
variable {TW:TypeId}
theorem eisZero_any {w:World} {A:Option Addr} {n c V:Nat} (neg:Bool) (e:Int) (h:Num w (.slice A n c) V) :
 Calls Tryz.prog 90 #[.agg #[.bool neg,.slice A n c,.int .i64 e]] w fun r w'=>r=.returned (.bool (decide (V=0)))∧Below w.heap.size w w':=by
 have b1:=alloc_bel w (.cells #[.bool neg,.slice A n c,.int .i64 e] 24)
 have hn:((n:Int) == 0)=decide (V=0):=by
  rw [Bool.eq_iff_iff]
  simp [← num_len0 h]
 obtain ⟨q,hq⟩:∃ q,Hid (decide (V=0)=q):=⟨_,Lib.hid rfl⟩
 rw [hq.out] at hn ⊢
 go_enter Tryz.func90,Tryz.ntmps90
 go_wp2_with fail
 go_ret
 exact ⟨rfl,b1⟩
theorem esize_any (neg:Bool) (A:Option Addr) (n c:Nat) (e:Int) (w:World) :
 Calls Tryz.prog 93 #[.agg #[.bool neg,.slice A n c,.int .i64 e]] w fun r w'=>r=.returned (.agg #[.bool false,.slice A n c,.int .i64 e])∧Below w.heap.size w w':=by
 go_enter Tryz.func93,Tryz.ntmps93
 go_wp2_with fail
 exact bodyPost_ret (v:=.agg #[.bool false,.slice A n c,.int .i64 e]) (by simp [results,Tryz.results93,go_sem]) rfl ⟨rfl,below_step (alloc_bel w _) (alloc_bel _ _)⟩
theorem enotAbove_any {r s:DR} {A B:Option Addr} {n c m d:Nat} (w:World) (ha:DIn w A n c r) (hb:DIn w B m d s) :
 Calls Tryz.prog 151 #[dyv r.neg A n c r.e,dyv s.neg B m d s.e] w fun o w'=>o=.returned (.bool (rightI r s))∧Below w.heap.size w w':=by
 obtain ⟨x,a1,a2,a3,a4⟩:=ha
 obtain ⟨y,b1,b2,b3,b4⟩:=hb
 have S:=FA.start w r.neg A n c r.e s.neg B m d s.e
 have CM:=Lib.hid (dcmp_any r.neg s.neg A B n c m d x y r.e s.e _ (a1.below S.bel) (b1.below S.bel) a2 b2)
 rw [← a3,← a4,← b3,← b4] at CM
 have HR:Hid (rightI r s=((r.ok && s.ok) && decide (cmpD (r.ok && s.ok) r.neg s.neg r.m s.m r.e s.e≤0))):=Lib.hid (by
  unfold rightI rightB cmpD
  cases (r.ok && s.ok) <;> simp)
 rw [HR.out]
 generalize cmpD (r.ok && s.ok) r.neg s.neg r.m s.m r.e s.e=z at *
 generalize (r.ok && s.ok)=ok at *
 clear HR a3 a4 b3 b4
 go_enter Tryz.func151,Tryz.ntmps151
 go_wp2_with fail
 refine CM.out.mono ?_
 rintro e' w2 ⟨rfl,b⟩
 have F:=S.adv b
 have B2:=F.bel
 clear S b F CM a1 a2 b1 b2
 cases ok
 · go_wp2_with fail
   go_ret
   exact ⟨rfl,B2⟩
 · go_wp2_with fail
   go_ret
   exact ⟨by simp,B2⟩
theorem eisLone_any {lo hi:DR} {A B:Option Addr} {n c m d:Nat} (w:World) (ha:DIn w A n c lo) (hb:DIn w B m d hi) :
 Calls Tryz.prog 88 #[spv lo.neg A n c lo.e hi.neg B m d hi.e] w fun o w'=>o=.returned (.bool (rightI hi lo))∧Below w.heap.size w w':=by
 have b1:=alloc_bel w (.cells #[.bool lo.neg,.slice A n c,.int .i64 lo.e,.bool hi.neg,.slice B m d,.int .i64 hi.e] 31)
 have NA:=Lib.hid (enotAbove_any _ (hb.below b1) (ha.below b1))
 have k1:=(KC.made 31 w #[.bool lo.neg,.slice A n c,.int .i64 lo.e,.bool hi.neg,.slice B m d,.int .i64 hi.e])
 go_enter Tryz.func88,Tryz.ntmps88
 go_wp2_with fail
 refine NA.out.mono ?_
 rintro e' w2 ⟨rfl,b2⟩
 go_wp2_with fail
 go_ret
 exact ⟨rfl,below_step b1 b2⟩
theorem efiner_any (g:Nat) (p:Int) (w:World) (hW:Wk TW w g p false) (hp1:0≤p) (hp2:p≤8192) :
 Calls Tryz.prog 111 #[.pointer (some ⟨g,0,none⟩)] w fun r w'=>r=.returned (.pointer (some ⟨w.heap.size,0,none⟩))∧Wk 38 w' w.heap.size (p+64) false∧Below w.heap.size w w':=by
 obtain ⟨c0,c1⟩:=hW.cell
 have hg:=hW.2
 have hw:IntKind.i64.wrap (p+64)=p+64:=wrap_id (by omega) (by omega)
 go_enter Tryz.func111,Tryz.ntmps111
 go_wp2_with fail
 go_ret
 exact ⟨rfl,⟨heap_alloc_new w _,by simp⟩,alloc_bel w _⟩
end Go.Proofs.YtmbmohibpkepdaaGreatDoor
namespace Go.Proofs.YtmbmohibpkepdaaGreatDoor
open Go.RowKit
variable {TW:TypeId}
def halfR (p:Int) (r:SRes):SRes:=outS p (scaleS p false r.lo r.hi (-1)).bad (scaleS p false r.lo r.hi (-1)).lo (scaleS p false r.lo r.hi (-1)).hi
set_option maxRecDepth 8000 in
set_option maxHeartbeats 4000000 in
theorem ehalf_any {T':TypeId} {r:SRes} {A B:Option Addr} {n c m d:Nat} (g gi:Nat) (p p':Int) (w:World) (hW:Wk TW w g p false) (hI:Wk T' w gi p' false) (G:SGood r) (ha:Num w (.slice A n c) r.lo.m) (hb:Num w (.slice B m d) r.hi.m) (hT:Tab w) :
 Calls Tryz.prog 112 #[.pointer (some ⟨g,0,none⟩),.pointer (some ⟨gi,0,none⟩),spv r.lo.neg A n c r.lo.e r.hi.neg B m d r.hi.e] w (SPost TW w g p (halfR p r)):=by
 have S:=((st1 hW (.bool r.lo.neg) (.slice A n c) (.int .i64 r.lo.e) (.bool r.hi.neg) (.slice B m d) (.int .i64 r.hi.e)).num ((hb.below (alloc_bel w _)).below (alloc_bel _ _))).num ((ha.below (alloc_bel w _)).below (alloc_bel _ _))
 obtain ⟨s,hs⟩:∃ s,s=scaleS p false r.lo r.hi (-1):=⟨_,rfl⟩
 obtain ⟨o,ho⟩:∃ o,o=outS p s.bad s.lo s.hi:=⟨_,rfl⟩
 have HR:Hid (halfR p r=o):=Lib.hid (by rw [ho,hs];rfl)
 have GS:SGood s:=by rw [hs];exact sgood_two (plIf_mk _ _ _) (plIf_mk _ _ _)
 have TB:Hid (∀ b' w' ks ns,St TW w g p b' w' ks ns→Tab w'):=Lib.hid (fun b' w' ks ns h=>hT.wk hW h.O)
 have C1:Hid (∀ w' ns A n c B m d,St TW w g p false w' [(31,w.heap.size+1,zs),(31,w.heap.size,#[.bool r.lo.neg,.slice A n c,.int .i64 r.lo.e,.bool r.hi.neg,.slice B m d,.int .i64 r.hi.e])] ns→Num w' (.slice A n c) r.lo.m→Num w' (.slice B m d) r.hi.m→Calls Tryz.prog 109 #[.pointer (some ⟨g,0,none⟩),spv r.lo.neg A n c r.lo.e r.hi.neg B m d r.hi.e,.int .i64 (-1)] w' (SPost TW w' g p s)):=Lib.hid (fun w' ns A n c B m d h h1 h2=>by
  rw [hs]
  exact scale_any g p false (-1) w' h.W (DIn.of_num h1 G.l2 G.l1) (DIn.of_num h2 G.h2 G.h1) (TB.out _ _ _ _ h) (by omega) (by omega))
 have C2:Hid (∀ w' ks ns A n c B m d,St TW w g p s.bad w' ks ns→Num w' (.slice A n c) s.lo.m→Num w' (.slice B m d) s.hi.m→Calls Tryz.prog 94 #[.pointer (some ⟨g,0,none⟩),spv s.lo.neg A n c s.lo.e s.hi.neg B m d s.hi.e] w' (SPost TW w' g p o)):=Lib.hid (fun w' ks ns A n c B m d h h1 h2=>by
  rw [ho]
  exact sout_any g p s.bad w' h.W (DIn.of_num h1 GS.l2 GS.l1) (DIn.of_num h2 GS.h2 GS.h1) (TB.out _ _ _ _ h))
 have hi0:=((hI.below (alloc_bel w (co6 (.bool r.lo.neg) (.slice A n c) (.int .i64 r.lo.e) (.bool r.hi.neg) (.slice B m d) (.int .i64 r.hi.e)))).below (alloc_bel _ z6)).cell
 obtain ⟨hi1,hi2⟩:=hi0
 clear hs ho TB hT hI ha hb
 go_enter Tryz.func112,Tryz.ntmps112
 go_upto_region 3 with fail
 generalize ((w.alloc (co6 (.bool r.lo.neg) (.slice A n c) (.int .i64 r.lo.e) (.bool r.hi.neg) (.slice B m d) (.int .i64 r.hi.e))).alloc z6)=w1 at *
 clear hi1 hi2
 have SD:=S.drew
 have sd1:Num w1.drew (.slice A n c) r.lo.m:=SD.ns.1
 have sd2:Num w1.drew (.slice B m d) r.hi.m:=SD.ns.2.1
 have HCC:Hid (∀ b' w' ns,St TW w g p b' w' [(31,w.heap.size+1,zs),(31,w.heap.size,#[.bool r.lo.neg,.slice A n c,.int .i64 r.lo.e,.bool r.hi.neg,.slice B m d,.int .i64 r.hi.e])] ns→w'.cell? ⟨w.heap.size,0,none⟩=some (.bool r.lo.neg)∧w'.cell? ⟨w.heap.size,1,none⟩=some (.slice A n c)∧w'.cell? ⟨w.heap.size,2,none⟩=some (.int .i64 r.lo.e)∧w'.cell? ⟨w.heap.size,3,none⟩=some (.bool r.hi.neg)∧w'.cell? ⟨w.heap.size,4,none⟩=some (.slice B m d)∧w'.cell? ⟨w.heap.size,5,none⟩=some (.int .i64 r.hi.e)):=Lib.hid (fun b' w' ns h=>⟨h.ks.2.1.1.at_ 0 _ rfl,h.ks.2.1.1.at_ 1 _ rfl,h.ks.2.1.1.at_ 2 _ rfl,h.ks.2.1.1.at_ 3 _ rfl,h.ks.2.1.1.at_ 4 _ rfl,h.ks.2.1.1.at_ 5 _ rfl⟩)
 have HPP:Hid (∀ b' w' ns,St TW w g p b' w' [(31,w.heap.size+1,zs),(31,w.heap.size,#[.bool r.lo.neg,.slice A n c,.int .i64 r.lo.e,.bool r.hi.neg,.slice B m d,.int .i64 r.hi.e])] ns→∀ q1 q2 q3 q4 q5 q6,(put6 w' (w.heap.size+1) q1 q2 q3 q4 q5 q6).cell? ⟨w.heap.size,0,none⟩=some (.bool r.lo.neg)∧(put6 w' (w.heap.size+1) q1 q2 q3 q4 q5 q6).cell? ⟨w.heap.size,1,none⟩=some (.slice A n c)∧(put6 w' (w.heap.size+1) q1 q2 q3 q4 q5 q6).cell? ⟨w.heap.size,2,none⟩=some (.int .i64 r.lo.e)∧(put6 w' (w.heap.size+1) q1 q2 q3 q4 q5 q6).cell? ⟨w.heap.size,3,none⟩=some (.bool r.hi.neg)∧(put6 w' (w.heap.size+1) q1 q2 q3 q4 q5 q6).cell? ⟨w.heap.size,4,none⟩=some (.slice B m d)∧(put6 w' (w.heap.size+1) q1 q2 q3 q4 q5 q6).cell? ⟨w.heap.size,5,none⟩=some (.int .i64 r.hi.e)):=Lib.hid (fun b' w' ns h q1 q2 q3 q4 q5 q6=>⟨(h.ks.2.1.1.only (only_put6 w' (w.heap.size+1) q1 q2 q3 q4 q5 q6) (by omega)).at_ 0 _ rfl,(h.ks.2.1.1.only (only_put6 w' (w.heap.size+1) q1 q2 q3 q4 q5 q6) (by omega)).at_ 1 _ rfl,(h.ks.2.1.1.only (only_put6 w' (w.heap.size+1) q1 q2 q3 q4 q5 q6) (by omega)).at_ 2 _ rfl,(h.ks.2.1.1.only (only_put6 w' (w.heap.size+1) q1 q2 q3 q4 q5 q6) (by omega)).at_ 3 _ rfl,(h.ks.2.1.1.only (only_put6 w' (w.heap.size+1) q1 q2 q3 q4 q5 q6) (by omega)).at_ 4 _ rfl,(h.ks.2.1.1.only (only_put6 w' (w.heap.size+1) q1 q2 q3 q4 q5 q6) (by omega)).at_ 5 _ rfl⟩)
 have XS:=HCC.out _ _ _ SD
 clear S
 go_region_held3 (fun w'=>w'.cell? ⟨w.heap.size,0,none⟩=some (.bool r.lo.neg)∧w'.cell? ⟨w.heap.size,1,none⟩=some (.slice A n c)∧w'.cell? ⟨w.heap.size,2,none⟩=some (.int .i64 r.lo.e)∧w'.cell? ⟨w.heap.size,3,none⟩=some (.bool r.hi.neg)∧w'.cell? ⟨w.heap.size,4,none⟩=some (.slice B m d)∧w'.cell? ⟨w.heap.size,5,none⟩=some (.int .i64 r.hi.e))
  (first | with_reducible exact HPP.out _ _ _ V2 _ _ _ _ _ _ | with_reducible exact HCC.out _ _ _ V2 | with_reducible exact HCC.out _ _ _ V1 | with_reducible exact XS)
  (first
   | (go_at_call 109;refine (C1.out _ _ _ _ _ _ _ _ SD sd1 sd2).mono ?_;rintro e' v1 ⟨A1,n1,c1,B1,m1,d1,rfl,N1,M1,W1,o1⟩;have V1:=((SD.only o1 W1).num M1).num N1;have u1:=V1.ns.1;have u2:=V1.ns.2.1)
   | (go_at_call 94;refine (C2.out _ _ _ _ _ _ _ _ _ V1 u1 u2).mono ?_;rintro e' v2 ⟨A2,n2,c2,B2,m2,d2,rfl,N2,M2,W2,o2⟩;have V2:=((V1.only o2 W2).num M2).num N2;have z1:=V2.ks.1.1;have z1c0:=z1.at_ 0 _ rfl;have z1c1:=z1.at_ 1 _ rfl;have z1c2:=z1.at_ 2 _ rfl;have z1c3:=z1.at_ 3 _ rfl;have z1c4:=z1.at_ 4 _ rfl;have z1c5:=z1.at_ 5 _ rfl;have z1f0:=z1.fr 0;have z1f1:=z1.fr 1;have z1f2:=z1.fr 2;have z1f3:=z1.fr 3;have z1f4:=z1.fr 4;have z1f5:=z1.fr 5;have z1l:=z1.2;have z1n:=Nat.ne_of_lt z1.2;have z1n2:=Nat.ne_of_gt z1.2))
 go_wp2_with fail
 rw [HR.out]
 obtain ⟨x1,x2,x3,x4⟩:=V2.give (lo:=o.lo) (hi:=o.hi) V2.ns.1 V2.ns.2.1 z1 (by omega)
 exact bodyPost_ret (v:=spv o.lo.neg A2 n2 c2 o.lo.e o.hi.neg B2 m2 d2 o.hi.e) (by simp [results,Tryz.results112,go_sem,z1c0,z1c1,z1c2,z1c3,z1c4,z1c5]) rfl ⟨A2,n2,c2,B2,m2,d2,rfl,x1,x2,x3,x4⟩
end Go.Proofs.YtmbmohibpkepdaaGreatDoor
namespace Go.Proofs.YtmbmohibpkepdaaGreatDoor
open Go.RowKit
structure AtOk (P:Nat) (B:Int) (r:SRes) (s:Nat→Rat):Prop where
 q:Sq B r
 hl:Hl (rv r.lo) (rv r.hi) s
 rel:(0≤rv r.lo∧rv r.hi≤rv r.lo*(1+4*uP P))∨(rv r.hi≤0∧rv r.hi*(1+4*uP P)≤rv r.lo)
def Bnd (B:Int) (y:Rat):Prop:=131080≤B∨(y≤16384∧33000≤B)
theorem Bnd.b {B:Int} {y:Rat} (h:Bnd B y):33000≤B:=by rcases h with h | h <;> omega
theorem PowOk.top {P:Nat} {y:Rat} {V:Nat} {E B:Int} (h:PowOk P y V E) (hy:0≤y) (hB:Bnd B y):E+(nb V:Int)+1≤B:=by
 have h2:=h.e2
 rcases hB with hB | ⟨hB,hB2⟩
 · omega
 · obtain ⟨n,hn⟩:=h.lo
   have hg:=ex_great (z:=y/32768) (by grind) (by grind) 15 n
   have e:((2^15:Nat):Rat)*(y/32768)=y:=by
    have:((2^15:Nat):Rat)=32768:=rfl
    rw [this];grind
   rw [e] at hg
   have hb:=h.b1
   have h0:0 < V:=by
    rcases Nat.eq_zero_or_pos V with h1 | h1
    · rw [h1,nb_zero] at hb;omega
    · exact h1
   have h4:=Rat.mul_le_mul_of_nonneg_right (natq_le (nb_ge h0)) (Rat.le_of_lt (tw_pos E))
   rw [tw_natmul] at h4
   rw [tp_tw] at hn
   have h5:tw (((nb V-1:Nat):Int)+E)≤tw ((2^15:Nat):Int):=by grind
   have:=tw_le h5
   have e15:((2^15:Nat):Int)=32768:=rfl
   omega
def dP (P:Nat):Rat:=tp (-((P+31:Nat):Int))
theorem dP_pos (P:Nat):0 < dP P:=tp_pos _
theorem lost_le {P V:Nat} (h:P+33≤nb V):(lostN P V:Rat)≤(V:Rat)*dP P:=by
 have h0:0 < V:=by
  rcases Nat.eq_zero_or_pos V with h1 | h1
  · rw [h1,nb_zero] at h;omega
  · exact h1
 have h1:=Rat.mul_le_mul_of_nonneg_right (natq_le (nb_ge h0)) (Rat.le_of_lt (dP_pos P))
 have e:((2^(nb V-1):Nat):Rat)*dP P=(lostN P V:Rat):=by
  unfold dP lostN
  rw [← tp_nat,← tp_nat,← tp_add]
  congr 1
  omega
 rw [e] at h1
 exact h1
theorem from_sq {P V:Nat} {E B:Int} (hP1:1≤P) (hV1:P+33≤nb V) (hV:nb V≤8900) (h1:-B≤E) (h2:E+(nb V:Int)+1≤B) (hB0:0≤B) (hB:B≤260000) :
 Sq B (fromR P V E)∧0 < rv (fromR P V E).lo∧rv (fromR P V E).hi≤rv (fromR P V E).lo*(1+dP P)∧rv (fromR P V E).lo=(V:Rat)*tp E∧rv (fromR P V E).hi=((V:Rat)+(lostN P V:Rat))*tp E:=by
 obtain ⟨n1,n2⟩:=nb_lost hV1
 have q1:=mk_q (neg:=false) (V:=V) (e:=E) (B:=B) (by omega) (by omega) (by omega) (by omega) (by omega)
 have q2:=mk_q (neg:=false) (V:=V+lostN P V) (e:=E) (B:=B) (by omega) (by omega) (by omega) (by omega) (by omega)
 have e1:=q1.2.1
 have e2:=q2.2.1
 rw [qv_false] at e1 e2
 rw [Rat.natCast_add] at e2
 have h0:0 < V:=by
  rcases Nat.eq_zero_or_pos V with h1 | h1
  · rw [h1,nb_zero] at hV1;omega
  · exact h1
 have hv:0 < (V:Rat)*tp E:=Rat.mul_pos (Rat.natCast_pos.2 h0) (tp_pos E)
 have hl:=Rat.mul_le_mul_of_nonneg_right (lost_le hV1) (Rat.le_of_lt (tp_pos E))
 have hl0:=Rat.mul_nonneg (natq_nonneg (lostN P V)) (Rat.le_of_lt (tp_pos E))
 have g1:rv (fromR P V E).lo=(V:Rat)*tp E:=e1
 have g2:rv (fromR P V E).hi=((V:Rat)+(lostN P V:Rat))*tp E:=e2
 refine ⟨⟨rfl,q1.1,q2.1,?_⟩,by rw [g1];exact hv,?_,g1,g2⟩
 · rw [g1,g2];grind
 · rw [g1,g2];grind
theorem PowOk.hl {P:Nat} {y:Rat} {V:Nat} {E:Int} (h:PowOk P y V E) (hy:0≤y):Hl ((V:Rat)*tp E) (((V:Rat)+(lostN P V:Rat))*tp E) (exQ y):=by
 obtain ⟨n,hn⟩:=h.lo
 exact Hl.of (N:=n) fun m hm=>⟨Rat.le_trans hn (exQ_mono hy hm),h.hi m⟩
theorem small_u {P:Nat} (hP:16≤P):32768*uP P≤1∧dP P*4294967296=uP P∧uP (P+64)*18446744073709551616=uP P:=by
 refine ⟨?_,?_,?_⟩
 · have h1:=uP_le hP
   have h2:uP 16*((2^(16-1):Nat):Rat)=1:=uP_mul (by omega)
   have e:((2^(16-1):Nat):Rat)=32768:=rfl
   rw [e] at h2
   grind
 · have e:(4294967296:Rat)=((2^32:Nat):Rat):=rfl
   unfold dP uP
   rw [e,← tp_nat,← tp_add]
   congr 1
   omega
 · have e:(18446744073709551616:Rat)=((2^64:Nat):Rat):=rfl
   unfold uP
   rw [e,← tp_nat,← tp_add]
   congr 1
   omega
theorem cut_narrow {u t a b x y:Rat} (hu:0 < u) (hu2:32768*u≤1) (ht:2*t≤u) (ha:0 < a) (hb:b≤a*(1+t)) (hab:a≤b) (h1:Cd u a x) (h2:Cu u b y):0 < x∧y≤x*(1+4*u):=by
 have k1:=h1.pos (Rat.le_of_lt ha)
 have k2:=h2.pos (by grind)
 have hau:0 < a*u:=Rat.mul_pos ha hu
 have p1:a*u*32768≤a:=by
  have:=Rat.mul_le_mul_of_nonneg_left hu2 (Rat.le_of_lt ha)
  grind
 refine ⟨by grind,?_⟩
 have s1:b*(1+u)≤a*(1+t)*(1+u):=Rat.mul_le_mul_of_nonneg_right hb (by grind)
 have s2:(1+t)*(1+u)≤(1-u)*(1+4*u):=by
  have q1:t*u≤u*u:=Rat.mul_le_mul_of_nonneg_right (by grind) (Rat.le_of_lt hu)
  have q2:u*u*32768≤u:=by
   have:=Rat.mul_le_mul_of_nonneg_left hu2 (Rat.le_of_lt hu)
   grind
  grind
 have s3:=Rat.mul_le_mul_of_nonneg_left s2 (Rat.le_of_lt ha)
 have s4:a*(1-u)*(1+4*u)≤x*(1+4*u):=Rat.mul_le_mul_of_nonneg_right k1 (by grind)
 grind
theorem exp_pos_ok {P:Nat} {y:Rat} {V:Nat} {E B:Int} (hP1:16≤P) (hP2:P≤1000) (h:PowOk P y V E) (hy:0≤y) (hB:Bnd B y) (hB2:B≤132000) :
 AtOk P (B+1) (outS (P:Int) false (fromR P V E).lo (fromR P V E).hi) (exQ y):=by
 have hb:=hB.b
 have b1:=h.b1
 have b2:=h.b2
 have e1:=h.e1
 have t1:=h.top hy hB
 obtain ⟨S,p1,p2,p3,p4⟩:=from_sq (P:=P) (V:=V) (E:=E) (B:=B) (by omega) (by omega) (by omega) (by omega) (by omega) (by omega) (by omega)
 obtain ⟨O,_,_,o1,o2⟩:=out_q (p:=(P:Int)) (by omega) (by omega) S (by omega) (by omega)
 rw [Int.toNat_natCast] at o1 o2
 obtain ⟨u1,u2,_⟩:=small_u hP1
 obtain ⟨c1,c2⟩:=cut_narrow (uP_pos P) u1 (by have:=uP_pos P;grind) p1 p2 S.le o1 o2
 have H:=h.hl hy
 rw [← p3,← p4] at H
 exact ⟨O,H.mono o1.le o2.le,.inl ⟨Rat.le_of_lt c1,c2⟩⟩
theorem one_sq {p:Int} (hp1:1≤p) (hp2:p≤8192):∃ d,numS p false 1=⟨false,d,d⟩∧Sq 64 ⟨false,d,d⟩∧rv d=1∧plainV d.neg d.m d.e=true∧d.ok=true:=by
 obtain ⟨d,h1,h2,h3,_⟩:=num_q (n:=1) hp1 hp2 (by rw [nb1];omega)
 exact ⟨d,h1,⟨rfl,h2,h2,Rat.le_refl⟩,h3,h2.pl,h2.ok⟩
theorem inv_ok {p:Int} {P:Nat} {y:Rat} {V:Nat} {E B:Int} {d:DR} (hp1:16≤p) (hp2:p≤2000) (hP1:16≤P) (hP2:P≤1000) (h:PowOk P y V E) (hy:0≤y) (hB:Bnd B y) (hB2:B≤132000) (hd:Sq 64 ⟨false,d,d⟩) (hd1:rv d=1) :
 Sq (B+3000) (divC p false d d (fromR P V E).lo (fromR P V E).hi)∧Hl (rv (divC p false d d (fromR P V E).lo (fromR P V E).hi).lo) (rv (divC p false d d (fromR P V E).lo (fromR P V E).hi).hi) (exQ (-y)) ∧
 Cd (uP p.toNat) 1 (rv (divC p false d d (fromR P V E).lo (fromR P V E).hi).lo*rv (fromR P V E).hi)∧Cu (uP p.toNat) 1 (rv (divC p false d d (fromR P V E).lo (fromR P V E).hi).hi*rv (fromR P V E).lo):=by
 have hb:=hB.b
 have b1:=h.b1
 have b2:=h.b2
 have e1:=h.e1
 have t1:=h.top hy hB
 obtain ⟨S,p1,p2,p3,p4⟩:=from_sq (P:=P) (V:=V) (E:=E) (B:=B) (by omega) (by omega) (by omega) (by omega) (by omega) (by omega) (by omega)
 obtain ⟨D,_,_,Q⟩:=div_q (p:=p) (by omega) (by omega) hd S p1 (by omega) (by omega) (by omega)
 dsimp only at D Q
 have q1:=Q.lo1 (by rw [hd1];decide)
 have q2:=Q.hi1 (by rw [hd1];decide)
 rw [hd1] at q1 q2
 have H:=h.hl hy
 rw [← p3,← p4] at H
 exact ⟨D.more (by omega),H.inv p1 (ex_inv y) q1.le q2.le,q1,q2⟩
theorem exp_neg_ok {P:Nat} {y:Rat} {V:Nat} {E B:Int} {d:DR} (hP1:16≤P) (hP2:P≤1000) (h:PowOk P y V E) (hy:0≤y) (hB:Bnd B y) (hB2:B≤132000) (hd:Sq 64 ⟨false,d,d⟩) (hd1:rv d=1) :
 AtOk P (B+3000) (divC (P:Int) false d d (fromR P V E).lo (fromR P V E).hi) (exQ (-y)):=by
 obtain ⟨D,H,q1,q2⟩:=inv_ok (p:=(P:Int)) (by omega) (by omega) hP1 hP2 h hy hB hB2 hd hd1
 have hb:=hB.b
 have b1:=h.b1
 have b2:=h.b2
 have e1:=h.e1
 have t1:=h.top hy hB
 obtain ⟨S,p1,p2,p3,p4⟩:=from_sq (P:=P) (V:=V) (E:=E) (B:=B) (by omega) (by omega) (by omega) (by omega) (by omega) (by omega) (by omega)
 rw [Int.toNat_natCast] at q1 q2
 refine ⟨D,H,.inl ?_⟩
 obtain ⟨u1,u2,_⟩:=small_u hP1
 have hu:=uP_pos P
 have k1:=q1.pos (by decide)
 have k2:=q2.pos (by decide)
 have hle:=D.le
 have hSle:=S.le
 generalize rv (divC (P:Int) false d d (fromR P V E).lo (fromR P V E).hi).lo=x at *
 generalize rv (divC (P:Int) false d d (fromR P V E).lo (fromR P V E).hi).hi=z at *
 generalize rv (fromR P V E).lo=a at *
 generalize rv (fromR P V E).hi=b at *
 generalize uP P=u at *
 have hd0:=dP_pos P
 generalize dP P=t at *
 have hb0:0 < b:=by grind
 have hx:0 < x:=by
  refine Rat.not_le.1 fun hn=>?_
  have:=Rat.mul_nonneg (show 0≤-x by grind) (Rat.le_of_lt hb0)
  grind
 refine ⟨Rat.le_of_lt hx,?_⟩
 have s1:x*b≤x*(a*(1+t)):=Rat.mul_le_mul_of_nonneg_left p2 (Rat.le_of_lt hx)
 have s2:(1-u)*(1+u)≤x*(a*(1+t))*(1+u):=Rat.mul_le_mul_of_nonneg_right (by grind) (by grind)
 have s3:(1-u)*(z*a)≤(1-u)*(1+u):=Rat.mul_le_mul_of_nonneg_left (by grind) (by grind)
 have s4:(1+t)*(1+u)≤(1-u)*(1+4*u):=by
  have q1:t*u≤u*u:=Rat.mul_le_mul_of_nonneg_right (by grind) (Rat.le_of_lt hu)
  have q2:u*u*32768≤u:=by
   have:=Rat.mul_le_mul_of_nonneg_left u1 (Rat.le_of_lt hu)
   grind
  grind
 have hxa:=Rat.mul_pos hx p1
 have s5:=Rat.mul_le_mul_of_nonneg_left s4 (Rat.le_of_lt hxa)
 have hc:0 < (1-u)*a:=Rat.mul_pos (by grind) p1
 refine Rat.le_of_mul_le_mul_left (c:=(1-u)*a) ?_ hc
 grind
end Go.Proofs.YtmbmohibpkepdaaGreatDoor
namespace Go.Proofs.YtmbmohibpkepdaaGreatDoor
open Go.RowKit
theorem tp_half:tp (-1)=1/2:=by
 have e:=tp_add (-1) 1
 rw [show (-1:Int)+1=0 by decide,tp_zero] at e
 have e2:tp 1=2:=by
  have:=tp_nat 1
  exact this
 rw [e2] at e
 grind
theorem Hl.mulc {a b c:Rat} {s:Nat→Rat} (h:Hl a b s) (hc:0 < c):Hl (a*c) (b*c) (fun n=>s n*c):=fun e he=>by
 have hd:0 < e/c:=rat_div_pos he hc
 have hm:e/c*c=e:=Rat.div_mul_cancel (by grind)
 obtain ⟨N,hN⟩:=h (e/c) hd
 refine ⟨N,fun n hn=>?_⟩
 have h1:=Rat.mul_le_mul_of_nonneg_right (hN n hn).1 (Rat.le_of_lt hc)
 have h2:=Rat.mul_le_mul_of_nonneg_right (hN n hn).2 (Rat.le_of_lt hc)
 constructor <;> grind
theorem half_ok {P:Nat} {B:Int} {r:SRes} {s:Nat→Rat} {t:Rat} (hP1:16≤P) (hP2:P≤8000) (h:Sq B r) (h0:0 < rv r.lo) (hb:rv r.hi≤rv r.lo*(1+t)) (ht:2*t≤uP P) (H:Hl (rv r.lo) (rv r.hi) s) (hB0:0≤B) (hB:B≤200000) :
 AtOk P (B+2) (halfR (P:Int) r) (fun n=>s n/2):=by
 obtain ⟨sE,sS,s1,s2⟩:=scale_q (p:=(P:Int)) (k:=-1) (by omega) (by omega) h (by omega) (B':=B+1) (by omega) (by omega) (by omega) (by omega)
 obtain ⟨O,_,_,o1,o2⟩:=out_q (p:=(P:Int)) (by omega) (by omega) sS (by omega) (by omega)
 rw [Int.toNat_natCast] at o1 o2
 have hE:halfR (P:Int) r=outS (P:Int) false (scaleS (P:Int) false r.lo r.hi (-1)).lo (scaleS (P:Int) false r.lo r.hi (-1)).hi:=by
  unfold halfR
  rw [sS.bad]
 rw [hE]
 rw [s1] at o1
 rw [s2] at o2
 have H2:=H.mulc (c:=tp (-1)) (tp_pos _)
 rw [tp_half] at o1 o2 H2
 obtain ⟨u1,_,_⟩:=small_u hP1
 have hle:=h.le
 obtain ⟨c1,c2⟩:=cut_narrow (t:=t) (uP_pos P) u1 ht (show 0 < rv r.lo*(1/2) by grind) (show rv r.hi*(1/2)≤rv r.lo*(1/2)*(1+t) by grind) (by grind) o1 o2
 refine ⟨O.more (by omega),?_,.inl ⟨Rat.le_of_lt c1,c2⟩⟩
 have e:(fun n=>s n*(1/2))=fun n=>s n/2:=by funext n;grind
 rw [e] at H2
 exact H2.mono o1.le o2.le
theorem inv_narrow {u t a b x z:Rat} (hu:0 < u) (hut:1024*u≤t) (ht1:1024*t≤1) (ha:0 < a) (hab:a≤b) (hb:b≤a*(1+t)) (q1:Cd u 1 (x*b)) (q2:Cu u 1 (z*a)):0 < x∧z≤x*(1+2*t)∧z*a≤1+u∧x*b≤1:=by
 have k1:=q1.pos (by decide)
 have k2:=q2.pos (by decide)
 have k3:=q1.le
 have hb0:0 < b:=by grind
 have hx:0 < x:=by
  refine Rat.not_le.1 fun hn=>?_
  have:=Rat.mul_nonneg (show 0≤-x by grind) (Rat.le_of_lt hb0)
  grind
 refine ⟨hx,?_,by grind,k3⟩
 have s1:x*b≤x*(a*(1+t)):=Rat.mul_le_mul_of_nonneg_left hb (Rat.le_of_lt hx)
 have s2:(1-u)*(1+u)≤x*(a*(1+t))*(1+u):=Rat.mul_le_mul_of_nonneg_right (by grind) (by grind)
 have s3:(1-u)*(z*a)≤(1-u)*(1+u):=Rat.mul_le_mul_of_nonneg_left (by grind) (by grind)
 have htu:t*u*1024≤u:=by
  have:=Rat.mul_le_mul_of_nonneg_right ht1 (Rat.le_of_lt hu)
  grind
 have s4:(1+t)*(1+u)≤(1-u)*(1+2*t):=by grind
 have hxa:=Rat.mul_pos hx ha
 have s5:=Rat.mul_le_mul_of_nonneg_left s4 (Rat.le_of_lt hxa)
 have hc:0 < (1-u)*a:=Rat.mul_pos (by grind) ha
 refine Rat.le_of_mul_le_mul_left (c:=(1-u)*a) ?_ hc
 grind
theorem sum_narrow {u t a b x z l h:Rat} (hu:0 < u) (ht:0 < t) (hut:1024*u≤t) (ht1:1024*t≤1) (ha:0 < a) (hab:a≤b) (hb:b≤a*(1+t)) (q1:Cd u 1 (x*b)) (q2:Cu u 1 (z*a)) (s1:Cd u (a+x) l) (s2:Cu u (b+z) h):0 < l∧h≤l*(1+3*t):=by
 obtain ⟨hx,hz,_,_⟩:=inv_narrow hu hut ht1 ha hab hb q1 q2
 have k1:=s1.pos (by grind)
 have hS:0 < a+x:=by grind
 have htx:0≤t*x:=Rat.mul_nonneg (Rat.le_of_lt ht) (Rat.le_of_lt hx)
 have hta:0≤t*a:=Rat.mul_nonneg (Rat.le_of_lt ht) (Rat.le_of_lt ha)
 have hw:b+z≤(a+x)*(1+2*t):=by grind
 have hbz:0≤b+z:=by
  rcases rat_total 0 z with h0 | h0
  · grind
  · exfalso
    have:=q2.le
    have:=Rat.mul_nonneg (show 0≤-z by grind) (Rat.le_of_lt ha)
    grind
 have k2:=s2.pos hbz
 have hSu:(a+x)*u*1024≤a+x:=by
  have:=Rat.mul_le_mul_of_nonneg_left (show u*1024≤1 by grind) (Rat.le_of_lt hS)
  grind
 have l0:0 < l:=by grind
 refine ⟨l0,?_⟩
 have m1:(b+z)*(1+u)≤(a+x)*(1+2*t)*(1+u):=Rat.mul_le_mul_of_nonneg_right hw (by grind)
 have htu:t*u*1024≤u:=by
  have:=Rat.mul_le_mul_of_nonneg_right ht1 (Rat.le_of_lt hu)
  grind
 have m2:(1+2*t)*(1+u)≤(1-u)*(1+3*t):=by grind
 have m3:=Rat.mul_le_mul_of_nonneg_left m2 (Rat.le_of_lt hS)
 have m4:(a+x)*(1-u)*(1+3*t)≤l*(1+3*t):=Rat.mul_le_mul_of_nonneg_right k1 (by grind)
 grind
theorem diff_narrow {u t a b x z l h:Rat} (hu:0 < u) (ht:0 < t) (hut:1024*u≤t) (ht1:67108864*t≤1) (hab:a≤b) (hb:b≤a*(1+t)) (hb1:65537≤b*65536) (q1:Cd u 1 (x*b)) (q2:Cu u 1 (z*a)) (s1:Cd u (a-z) l) (s2:Cu u (b-x) h):0 < l∧h≤l*(1+1310720*t):=by
 have ha1:131073≤a*131072:=by
  have h1:b*65536≤a*(1+t)*65536:=Rat.mul_le_mul_of_nonneg_right hb (by decide)
  refine Rat.not_lt.1 fun hn=>?_
  have h2:a*131072*t≤131073*t:=Rat.mul_le_mul_of_nonneg_right (by grind) (Rat.le_of_lt ht)
  grind
 have ha:0 < a:=by grind
 obtain ⟨hx,hz,hza,hxb⟩:=inv_narrow hu hut (by grind) ha hab hb q1 q2
 have haa:131073*a≤a*131072*a:=Rat.mul_le_mul_of_nonneg_right ha1 (Rat.le_of_lt ha)
 have hL:a≤(a-z)*131072:=by
  refine Rat.le_of_mul_le_mul_left (c:=a) ?_ ha
  grind
 have hL0:0 < a-z:=by grind
 have hxa:x≤a:=by
  have h1:x*1≤x*b:=Rat.mul_le_mul_of_nonneg_left (by grind) (Rat.le_of_lt hx)
  grind
 have htx:t*x≤t*a:=Rat.mul_le_mul_of_nonneg_left hxa (Rat.le_of_lt ht)
 have hw:b-x≤(a-z)*(1+393216*t):=by
  have h1:t*a≤t*((a-z)*131072):=Rat.mul_le_mul_of_nonneg_left hL (Rat.le_of_lt ht)
  grind
 have k1:=s1.pos (Rat.le_of_lt hL0)
 have hbx:0≤b-x:=by
  have h1:x*1≤x*b:=Rat.mul_le_mul_of_nonneg_left (by grind) (Rat.le_of_lt hx)
  grind
 have k2:=s2.pos hbx
 have hSu:(a-z)*u*1024≤a-z:=by
  have:=Rat.mul_le_mul_of_nonneg_left (show u*1024≤1 by grind) (Rat.le_of_lt hL0)
  grind
 have l0:0 < l:=by grind
 refine ⟨l0,?_⟩
 have m1:(b-x)*(1+u)≤(a-z)*(1+393216*t)*(1+u):=Rat.mul_le_mul_of_nonneg_right hw (by grind)
 have htu:t*u*67108864≤u:=by
  have:=Rat.mul_le_mul_of_nonneg_right ht1 (Rat.le_of_lt hu)
  grind
 have m2:(1+393216*t)*(1+u)≤(1-u)*(1+1310720*t):=by grind
 have m3:=Rat.mul_le_mul_of_nonneg_left m2 (Rat.le_of_lt hL0)
 have m4:(a-z)*(1-u)*(1+1310720*t)≤l*(1+1310720*t):=Rat.mul_le_mul_of_nonneg_right k1 (by grind)
 grind
theorem shares {P:Nat} (hP:16≤P):0 < uP (P+64)∧0 < dP P∧1024*uP (P+64)≤dP P∧67108864*dP P≤1∧2*(1310720*dP P)≤uP P:=by
 obtain ⟨a,b,c⟩:=small_u hP
 have h1:=uP_pos P
 have h2:=uP_pos (P+64)
 have h3:=dP_pos P
 generalize uP (P+64)=v at *
 generalize uP P=u at *
 generalize dP P=t at *
 exact ⟨h2,h3,by grind,by grind,by grind⟩
theorem cosh_ok {P:Nat} {y:Rat} {V:Nat} {E B:Int} {d:DR} (hP1:16≤P) (hP2:P≤1000) (h:PowOk P y V E) (hy:0≤y) (hB:Bnd B y) (hB2:B≤132000) (hd:Sq 64 ⟨false,d,d⟩) (hd1:rv d=1) :
 AtOk P (B+3100) (halfR (P:Int) (addS ((P:Int)+64) false (fromR P V E).lo (fromR P V E).hi (divC ((P:Int)+64) false d d (fromR P V E).lo (fromR P V E).hi).lo (divC ((P:Int)+64) false d d (fromR P V E).lo (fromR P V E).hi).hi)) (chQ y):=by
 obtain ⟨D,H,q1,q2⟩:=inv_ok (p:=(P:Int)+64) (by omega) (by omega) hP1 hP2 h hy hB hB2 hd hd1
 have hb:=hB.b
 have b1:=h.b1
 have b2:=h.b2
 have e1:=h.e1
 have t1:=h.top hy hB
 obtain ⟨S,p1,p2,p3,p4⟩:=from_sq (P:=P) (V:=V) (E:=E) (B:=B) (by omega) (by omega) (by omega) (by omega) (by omega) (by omega) (by omega)
 obtain ⟨A,a1,a2⟩:=add_q (p:=(P:Int)+64) (by omega) (by omega) (S.more (show B≤B+3000 by omega)) D (by omega) (by omega)
 have hp:((P:Int)+64).toNat=P+64:=by omega
 rw [hp] at q1 q2 a1 a2
 have HP:=h.hl hy
 rw [← p3,← p4] at HP
 obtain ⟨g1,g2,g3,g4,g5⟩:=shares hP1
 obtain ⟨l0,n1⟩:=sum_narrow g1 g2 g3 (by grind) p1 S.le p2 q1 q2 a1 a2
 have HS:=(HP.add H).mono a1.le a2.le
 have F:=half_ok hP1 (by omega) A l0 n1 (by grind) HS (by omega) (by omega)
 exact ⟨F.q.more (by omega),F.hl,F.rel⟩
theorem ex_first {y:Rat}:exQ y 1=1+y:=by
 show 1+1*y/(((0:Nat):Rat)+1)=1+y
 have:((0:Nat):Rat)=0:=rfl
 rw [this,Rat.zero_add,Rat.div_def]
 grind
theorem sinh_ok {P:Nat} {y:Rat} {V:Nat} {E B:Int} {d:DR} (hP1:16≤P) (hP2:P≤1000) (h:PowOk P y V E) (hy:1≤65536*y) (hB:Bnd B y) (hB2:B≤132000) (hd:Sq 64 ⟨false,d,d⟩) (hd1:rv d=1) :
 AtOk P (B+3100) (halfR (P:Int) (subS ((P:Int)+64) false (fromR P V E).lo (fromR P V E).hi (divC ((P:Int)+64) false d d (fromR P V E).lo (fromR P V E).hi).lo (divC ((P:Int)+64) false d d (fromR P V E).lo (fromR P V E).hi).hi)) (shQ y):=by
 have hy0:0≤y:=by grind
 obtain ⟨D,H,q1,q2⟩:=inv_ok (p:=(P:Int)+64) (by omega) (by omega) hP1 hP2 h hy0 hB hB2 hd hd1
 have hb:=hB.b
 have b1:=h.b1
 have b2:=h.b2
 have e1:=h.e1
 have t1:=h.top hy0 hB
 obtain ⟨S,p1,p2,p3,p4⟩:=from_sq (P:=P) (V:=V) (E:=E) (B:=B) (by omega) (by omega) (by omega) (by omega) (by omega) (by omega) (by omega)
 obtain ⟨A,a1,a2⟩:=sub_q (p:=(P:Int)+64) (by omega) (by omega) (S.more (show B≤B+3000 by omega)) D (by omega) (by omega)
 have hp:((P:Int)+64).toNat=P+64:=by omega
 rw [hp] at q1 q2 a1 a2
 have HP:=h.hl hy0
 have hb1:=h.hi 1
 rw [ex_first,← p4] at hb1
 rw [← p3,← p4] at HP
 obtain ⟨g1,g2,g3,g4,g5⟩:=shares hP1
 obtain ⟨l0,n1⟩:=diff_narrow g1 g2 g3 g4 S.le p2 (by grind) q1 q2 a1 a2
 have HS:=(HP.sub H).mono a1.le a2.le
 have F:=half_ok hP1 (by omega) A l0 n1 g5 HS (by omega) (by omega)
 exact ⟨F.q.more (by omega),F.hl,F.rel⟩
theorem ser_sq {P odd:Nat} {y:Rat} {V:Nat} (hP1:16≤P) (hP2:P≤1000) (h:SerOk P odd y V) :
 Sq 2000 (fromR P V (-((P+64:Nat):Int)))∧0 < rv (fromR P V (-((P+64:Nat):Int))).lo∧rv (fromR P V (-((P+64:Nat):Int))).hi≤rv (fromR P V (-((P+64:Nat):Int))).lo*(1+dP P) ∧
 ∀ n,P+65≤n→rv (fromR P V (-((P+64:Nat):Int))).lo≤sumQ (gQ (dSq odd) (y*y)) n∧sumQ (gQ (dSq odd) (y*y)) n≤rv (fromR P V (-((P+64:Nat):Int))).hi:=by
 have b1:=h.b1
 have b2:=h.b2
 obtain ⟨S,p1,p2,p3,p4⟩:=from_sq (P:=P) (V:=V) (E:=-((P+64:Nat):Int)) (B:=2000) (by omega) (by omega) (by omega) (by omega) (by omega) (by omega) (by omega)
 refine ⟨S,p1,p2,fun n hn=>?_⟩
 rw [p3,p4]
 exact h.h n hn
theorem cosh_near {P:Nat} {y:Rat} {V:Nat} (hP1:16≤P) (hP2:P≤1000) (h:SerOk P 0 y V) :
 AtOk P 2001 (outS (P:Int) false (fromR P V (-((P+64:Nat):Int))).lo (fromR P V (-((P+64:Nat):Int))).hi) (chQ y):=by
 obtain ⟨S,p1,p2,H⟩:=ser_sq hP1 hP2 h
 obtain ⟨O,_,_,o1,o2⟩:=out_q (p:=(P:Int)) (by omega) (by omega) S (by omega) (by omega)
 rw [Int.toNat_natCast] at o1 o2
 obtain ⟨u1,_,_⟩:=small_u hP1
 obtain ⟨_,_,_,_,g5⟩:=shares hP1
 have:=dP_pos P
 obtain ⟨c1,c2⟩:=cut_narrow (uP_pos P) u1 (by grind) p1 p2 S.le o1 o2
 exact ⟨O,(hl_ch H).mono o1.le o2.le,.inl ⟨Rat.le_of_lt c1,c2⟩⟩
theorem mm_pos {L H y a b:Rat} (h:MnMx L H y y a b) (hy:0≤y) (hab:a≤b):L=y*a∧H=y*b:=by
 have h1:=Rat.mul_le_mul_of_nonneg_left hab hy
 have a1:=h.l1
 have a2:=h.u2
 constructor
 · rcases h.lo with e | e | e | e <;> grind
 · rcases h.hi with e | e | e | e <;> grind
theorem sinh_near {P:Nat} {x:DR} {V:Nat} (hP1:16≤P) (hP2:P≤1000) {B:Int} (hB0:2000≤B) (hB:B≤120000) (hx:Tq B x) (h0:0 < rv x) (h:SerOk P 1 (rv x) V) :
 AtOk P (2*B+1) (mulC (P:Int) false x x (fromR P V (-((P+64:Nat):Int))).lo (fromR P V (-((P+64:Nat):Int))).hi) (shQ (rv x)):=by
 obtain ⟨S,p1,p2,H⟩:=ser_sq hP1 hP2 h
 have X:Sq B ⟨false,x,x⟩:=⟨rfl,hx,hx,Rat.le_refl⟩
 obtain ⟨M,_,_,L,K,MM,m1,m2⟩:=mul_q (p:=(P:Int)) (by omega) (by omega) X (S.more hB0) (by omega) (by omega)
 dsimp only at M MM m1 m2
 obtain ⟨e1,e2⟩:=mm_pos MM (Rat.le_of_lt h0) S.le
 rw [Int.toNat_natCast] at m1 m2
 rw [e1] at m1
 rw [e2] at m2
 obtain ⟨u1,_,_⟩:=small_u hP1
 obtain ⟨_,_,_,_,g5⟩:=shares hP1
 have:=dP_pos P
 have s1:=Rat.mul_le_mul_of_nonneg_left p2 (Rat.le_of_lt h0)
 have s2:=Rat.mul_le_mul_of_nonneg_left S.le (Rat.le_of_lt h0)
 obtain ⟨c1,c2⟩:=cut_narrow (t:=dP P) (uP_pos P) u1 (by grind) (Rat.mul_pos h0 p1) (by grind) s2 m1 m2
 refine ⟨M,(hl_sh (N:=P+65) fun n hn=>?_).mono m1.le m2.le,.inl ⟨Rat.le_of_lt c1,c2⟩⟩
 obtain ⟨g1,g2⟩:=H n hn
 exact ⟨Rat.mul_le_mul_of_nonneg_left g1 (Rat.le_of_lt h0),Rat.mul_le_mul_of_nonneg_left g2 (Rat.le_of_lt h0)⟩
theorem AtOk.neg {P:Nat} {B:Int} {r:SRes} {s:Nat→Rat} (hP1:1≤P) (hP2:P≤8000) (h:AtOk P B r s) (hB0:0≤B):AtOk P B (negS (P:Int) false r.lo r.hi) (fun n=>- s n):=by
 obtain ⟨hE,S,e1,e2⟩:=neg_q (p:=(P:Int)) (by omega) (by omega) h.q hB0
 have H:=h.hl.neg
 have R:=h.rel
 rw [← e1,← e2] at H
 refine ⟨S,?_,?_⟩
 · rw [hE];exact H
 · rw [hE]
   show (0≤rv (negI r.hi)∧rv (negI r.lo)≤rv (negI r.hi)*(1+4*uP P))∨(rv (negI r.lo)≤0∧rv (negI r.lo)*(1+4*uP P)≤rv (negI r.hi))
   rw [e1,e2]
   rcases R with ⟨h1,h2⟩ | ⟨h1,h2⟩
   · right;constructor <;> grind
   · left;constructor <;> grind
theorem at_point {P:Nat} {B:Int} {x:DR} {s:Nat→Rat} (hx:Tq B x) (h:∀ n,s n=rv x) (h0:0≤rv x):AtOk P B ⟨false,x,x⟩ s:=by
 refine ⟨⟨rfl,hx,hx,Rat.le_refl⟩,Hl.of (N:=0) fun n _=>by rw [h n];exact ⟨Rat.le_refl,Rat.le_refl⟩,.inl ?_⟩
 have:=Rat.mul_nonneg (Rat.le_of_lt (uP_pos P)) h0
 exact ⟨h0,show rv x≤rv x*(1+4*uP P) by grind⟩
end Go.Proofs.YtmbmohibpkepdaaGreatDoor
namespace Go.Proofs.YtmbmohibpkepdaaGreatDoor
open Go.RowKit
variable {TW:TypeId}
def sz (x:DR):Rat:=(x.m:Rat)*tp x.e
structure Rch (x:DR):Prop where
 ok:x.ok=true
 pl:plainV x.neg x.m x.e=true
 b:nb x.m≤8000
 e1:-30000≤x.e
 t:x.e+(nb x.m:Int)≤17
 s:(x.m:Rat)*tp x.e≤65536
theorem sz_nonneg (x:DR):0≤sz x:=qv_pos _ _
theorem rv_pos {x:DR} (h:x.neg=false):rv x=sz x:=by unfold rv sz;rw [h,qv_false]
theorem rv_neg {x:DR} (h:x.neg=true):rv x=- sz x:=by unfold rv sz;rw [h,qv_true]
theorem sz_zero {x:DR} (h:x.m=0):sz x=0:=by unfold sz;rw [h];exact Rat.zero_mul _
theorem rv_zero {x:DR} (h:x.m=0):rv x=0:=by unfold rv;rw [h,qv_zero]
set_option maxRecDepth 8000 in
set_option maxHeartbeats 4000000 in
theorem eexp_zero {x:DR} {A:Option Addr} {n c:Nat} (g P:Nat) (B:Int) (w:World) (hW:Wk TW w g (P:Int) false) (ha:Num w (.slice A n c) x.m) (hT:Tab w) (hP1:16≤P) (hP2:P≤1000) (hB:Bnd B (sz x)) (hB2:B≤132000) (neg:Bool) (h0:x.m=0) :
 Calls Tryz.prog 46 #[.pointer (some ⟨g,0,none⟩),dyv neg A n c x.e] w (fun e w'=>∃ r,AtOk P (B+3100) r (exQ 0)∧SPost TW w g (P:Int) r e w'):=by
 have S:=(std1 hW (.bool neg) (.slice A n c) (.int .i64 x.e)).num (((ha.below (alloc_bel w _)).below (alloc_bel _ _)))
 have TB:Hid (∀ w' ks ns,St TW w g (P:Int) false w' ks ns→Tab w'):=Lib.hid (fun w' ks ns h=>hT.wk hW h.O)
 have hbb:=hB.b
 obtain ⟨p,hp⟩:∃ p:Int,p=(P:Int):=⟨_,rfl⟩
 have IZ:Hid (∀ w' ns,St TW w g (P:Int) false w' [(31,w.heap.size+1,zs),(24,w.heap.size,#[.bool neg,.slice A n c,.int .i64 x.e])] ns→Num w' (.slice A n c) x.m→Calls Tryz.prog 90 #[.agg #[.bool neg,.slice A n c,.int .i64 x.e]] w' (fun r w''=>r=.returned (.bool (decide (x.m=0)))∧Below w'.heap.size w' w'')):=Lib.hid (fun w' ns _ h1=>eisZero_any neg x.e h1)
 obtain ⟨d,d1,d2,d3,-,-⟩:=one_sq (p:=(P:Int)) (by omega) (by omega)
 have C2:Hid (∀ w' ks ns,St TW w g (P:Int) false w' ks ns→Calls Tryz.prog 31 #[.pointer (some ⟨g,0,none⟩),.int .i64 1] w' (fun e w''=>∃ r,AtOk P (B+3100) r (exQ 0)∧SPost TW w' g (P:Int) r e w'')):=Lib.hid (fun w' ks ns h=>(num_any 1 g (P:Int) false w' h.W (TB.out _ _ _ h) (by omega) (by omega)).mono fun e w'' hp=>⟨_,by rw [d1];exact at_point (d2.l.more (by omega)) (fun n=>by rw [ex_zero];exact d3.symm) (by show 0≤rv d;rw [d3];decide),hp⟩)
 have hd:decide (x.m=0)=true:=decide_eq_true h0
 have C3:=IZ.out _ _ S S.ns.1
 rw [hd] at C3
 have HC3:=Lib.hid C3
 rw [← hp] at S C2 ⊢
 clear C3 IZ hp TB hT hW hd hB hB2 hbb ha h0 d1 d2 d3 d
 go_enter Tryz.func46,Tryz.ntmps46
 go_wp2_with fail
 refine HC3.out.mono ?_
 rintro e' v1 ⟨rfl,b1⟩
 replace S:=S.below b1
 have KY2:=Lib.hid (C2.out _ _ _ S)
 clear HC3 b1 C2
 go_wp2_with fail
 refine KY2.out.mono ?_
 rintro e' v2 ⟨r,AO,A9,n9,c9,B9,m9,d9,rfl,N1,M1,W1,o1⟩
 have V2:=((S.only o1 W1).num M1).num N1
 have z1:=V2.ks.1.1
 have z1c0:=z1.at_ 0 _ rfl
 have z1c1:=z1.at_ 1 _ rfl
 have z1c2:=z1.at_ 2 _ rfl
 have z1c3:=z1.at_ 3 _ rfl
 have z1c4:=z1.at_ 4 _ rfl
 have z1c5:=z1.at_ 5 _ rfl
 have z1f0:=z1.fr 0
 have z1f1:=z1.fr 1
 have z1f2:=z1.fr 2
 have z1f3:=z1.fr 3
 have z1f4:=z1.fr 4
 have z1f5:=z1.fr 5
 have z1l:=z1.2
 have z1n:=Nat.ne_of_lt z1.2
 have z1n2:=Nat.ne_of_gt z1.2
 go_wp2_with fail
 obtain ⟨x1,x2,x3,x4⟩:=V2.give (lo:=r.lo) (hi:=r.hi) V2.ns.1 V2.ns.2.1 z1 (by omega)
 exact bodyPost_ret (v:=spv r.lo.neg A9 n9 c9 r.lo.e r.hi.neg B9 m9 d9 r.hi.e) (by simp [results,Tryz.results46,go_sem,z1c0,z1c1,z1c2,z1c3,z1c4,z1c5]) rfl ⟨r,AO,A9,n9,c9,B9,m9,d9,rfl,x1,x2,x3,x4⟩
set_option maxRecDepth 8000 in
set_option maxHeartbeats 4000000 in
theorem eexp_pos {x:DR} {A:Option Addr} {n c:Nat} (g P:Nat) (B:Int) (w:World) (hW:Wk TW w g (P:Int) false) (ha:Num w (.slice A n c) x.m) (hx:Rch x) (hT:Tab w) (hP1:16≤P) (hP2:P≤1000) (hB:Bnd B (sz x)) (hB2:B≤132000) (h0:x.m≠0) :
 Calls Tryz.prog 46 #[.pointer (some ⟨g,0,none⟩),dyv false A n c x.e] w (fun e w'=>∃ r,AtOk P (B+3100) r (exQ (sz x))∧SPost TW w g (P:Int) r e w'):=by
 have S:=(std1 hW (.bool false) (.slice A n c) (.int .i64 x.e)).num (((ha.below (alloc_bel w _)).below (alloc_bel _ _)))
 have TB:Hid (∀ w' ks ns,St TW w g (P:Int) false w' ks ns→Tab w'):=Lib.hid (fun w' ks ns h=>hT.wk hW h.O)
 have hbb:=hB.b
 obtain ⟨p,hp⟩:∃ p:Int,p=(P:Int):=⟨_,rfl⟩
 have IZ:Hid (∀ w' ns,St TW w g (P:Int) false w' [(31,w.heap.size+1,zs),(24,w.heap.size,#[.bool false,.slice A n c,.int .i64 x.e])] ns→Num w' (.slice A n c) x.m→Calls Tryz.prog 90 #[.agg #[.bool false,.slice A n c,.int .i64 x.e]] w' (fun r w''=>r=.returned (.bool (decide (x.m=0)))∧Below w'.heap.size w' w'')):=Lib.hid (fun w' ns _ h1=>eisZero_any false x.e h1)
 have C1:Hid (∀ w' ks ns,St TW w g (P:Int) false w' ks ns→Num w' (.slice A n c) x.m→Calls Tryz.prog 92 #[.pointer (some ⟨g,0,none⟩),dyv false A n c x.e] w' (fun e w''=>∃ V E,PowOk P (sz x) V E∧SPost TW w' g (P:Int) (fromR P V E) e w'')):=Lib.hid (fun w' ks ns h h1=>epower_any g P w' h.W h1 (TB.out _ _ _ h) hP1 (by omega) (by have:=hx.b;omega) (by have:=hx.e1;omega) hx.t hx.s)
 have C2:Hid (∀ w' ks ns V E A0 n0 c0 B0 m0 d0,PowOk P (sz x) V E→St TW w g (P:Int) false w' ks ns→Num w' (.slice A0 n0 c0) (fromR P V E).lo.m→Num w' (.slice B0 m0 d0) (fromR P V E).hi.m→Calls Tryz.prog 94 #[.pointer (some ⟨g,0,none⟩),spv (fromR P V E).lo.neg A0 n0 c0 (fromR P V E).lo.e (fromR P V E).hi.neg B0 m0 d0 (fromR P V E).hi.e] w' (fun e w''=>∃ r,AtOk P (B+3100) r (exQ (sz x))∧SPost TW w' g (P:Int) r e w'')):=Lib.hid (fun w' ks ns V E _ _ _ _ _ _ ok h h1 h2=>by
  have b1:=ok.b1
  have b2:=ok.b2
  have e1:=ok.e1
  have t1:=ok.top (sz_nonneg x) hB
  obtain ⟨Sq',_⟩:=from_sq (P:=P) (V:=V) (E:=E) (B:=B) (by omega) (by omega) (by omega) (by omega) (by omega) (by omega) (by omega)
  have G:=Sq'.good
  have AO:=exp_pos_ok hP1 hP2 ok (sz_nonneg x) hB hB2
  exact (sout_any g (P:Int) false w' h.W (DIn.of_num h1 G.l2 G.l1) (DIn.of_num h2 G.h2 G.h1) (TB.out _ _ _ h)).mono fun e w'' hp=>⟨_,⟨AO.q.more (by omega),AO.hl,AO.rel⟩,hp⟩)
 have hd:decide (x.m=0)=false:=decide_eq_false h0
 have C3:=IZ.out _ _ S S.ns.1
 rw [hd] at C3
 have HC3:=Lib.hid C3
 rw [← hp] at S C1 C2 ⊢
 clear C3 IZ hp TB hT hW hd hB hB2 hbb hx ha h0
 go_enter Tryz.func46,Tryz.ntmps46
 go_wp2_with fail
 refine HC3.out.mono ?_
 rintro e' v1 ⟨rfl,b1⟩
 replace S:=S.below b1
 clear HC3 b1
 have k0:=S.ks.2.1.1.at_ 0 _ rfl
 have kl:=S.ks.2.1.1.2
 have kl2:=S.ks.1.1.2
 go_upto_region 5 with fail
 have SD:=S.drew
 have sd1:Num v1.drew (.slice A n c) x.m:=SD.ns.1
 have HCC:Hid (∀ b' w' ns,St TW w g p b' w' [(31,w.heap.size+1,zs),(24,w.heap.size,#[.bool false,.slice A n c,.int .i64 x.e])] ns→w'.cell? ⟨w.heap.size,0,none⟩=some (.bool false)∧w'.cell? ⟨w.heap.size,1,none⟩=some (.slice A n c)∧w'.cell? ⟨w.heap.size,2,none⟩=some (.int .i64 x.e)):=Lib.hid (fun b' w' ns h=>⟨h.ks.2.1.1.at_ 0 _ rfl,h.ks.2.1.1.at_ 1 _ rfl,h.ks.2.1.1.at_ 2 _ rfl⟩)
 have HPP:Hid (∀ b' w' ns,St TW w g p b' w' [(31,w.heap.size+1,zs),(24,w.heap.size,#[.bool false,.slice A n c,.int .i64 x.e])] ns→∀ q1 q2 q3 q4 q5 q6,(put6 w' (w.heap.size+1) q1 q2 q3 q4 q5 q6).cell? ⟨w.heap.size,0,none⟩=some (.bool false)∧(put6 w' (w.heap.size+1) q1 q2 q3 q4 q5 q6).cell? ⟨w.heap.size,1,none⟩=some (.slice A n c)∧(put6 w' (w.heap.size+1) q1 q2 q3 q4 q5 q6).cell? ⟨w.heap.size,2,none⟩=some (.int .i64 x.e)):=Lib.hid (fun b' w' ns h q1 q2 q3 q4 q5 q6=>⟨(h.ks.2.1.1.only (only_put6 w' (w.heap.size+1) q1 q2 q3 q4 q5 q6) (by omega)).at_ 0 _ rfl,(h.ks.2.1.1.only (only_put6 w' (w.heap.size+1) q1 q2 q3 q4 q5 q6) (by omega)).at_ 1 _ rfl,(h.ks.2.1.1.only (only_put6 w' (w.heap.size+1) q1 q2 q3 q4 q5 q6) (by omega)).at_ 2 _ rfl⟩)
 have XS:=HCC.out _ _ _ SD
 clear S k0
 go_region_held3 (fun w'=>w'.cell? ⟨w.heap.size,0,none⟩=some (.bool false)∧w'.cell? ⟨w.heap.size,1,none⟩=some (.slice A n c)∧w'.cell? ⟨w.heap.size,2,none⟩=some (.int .i64 x.e))
  (first | with_reducible exact HPP.out _ _ _ V2 _ _ _ _ _ _ | with_reducible exact HCC.out _ _ _ V2 | with_reducible exact HCC.out _ _ _ V1 | with_reducible exact XS)
  (first
   | (go_at_call 92;refine (C1.out _ _ _ SD sd1).mono ?_;rintro e' v2 ⟨V,E,ok,A1,n1,c1,B1,m1,d1,rfl,N1,M1,W1,o1⟩;have V1:=((SD.only o1 (show Wk TW _ g p false from W1)).num M1).num N1;have u1:=V1.ns.1;have u2:=V1.ns.2.1)
   | (go_at_call 94;refine (C2.out _ _ _ _ _ _ _ _ _ _ _ ok V1 u1 u2).mono ?_;rintro e' v3 ⟨r,AO,A2,n2,c2,B2,m2,d2,rfl,N2,M2,W2,o2⟩;have V2:=((V1.only o2 W2).num M2).num N2;have z1:=V2.ks.1.1;have z1c0:=z1.at_ 0 _ rfl;have z1c1:=z1.at_ 1 _ rfl;have z1c2:=z1.at_ 2 _ rfl;have z1c3:=z1.at_ 3 _ rfl;have z1c4:=z1.at_ 4 _ rfl;have z1c5:=z1.at_ 5 _ rfl;have z1f0:=z1.fr 0;have z1f1:=z1.fr 1;have z1f2:=z1.fr 2;have z1f3:=z1.fr 3;have z1f4:=z1.fr 4;have z1f5:=z1.fr 5;have z1l:=z1.2;have z1n:=Nat.ne_of_lt z1.2;have z1n2:=Nat.ne_of_gt z1.2))
 go_wp2_with fail
 obtain ⟨x1,x2,x3,x4⟩:=V2.give (lo:=r.lo) (hi:=r.hi) V2.ns.1 V2.ns.2.1 z1 (by omega)
 exact bodyPost_ret (v:=spv r.lo.neg A2 n2 c2 r.lo.e r.hi.neg B2 m2 d2 r.hi.e) (by simp [results,Tryz.results46,go_sem,z1c0,z1c1,z1c2,z1c3,z1c4,z1c5]) rfl ⟨r,AO,A2,n2,c2,B2,m2,d2,rfl,x1,x2,x3,x4⟩
set_option maxRecDepth 8000 in
set_option maxHeartbeats 4000000 in
theorem eexp_neg {x:DR} {A:Option Addr} {n c:Nat} (g P:Nat) (B:Int) (w:World) (hW:Wk TW w g (P:Int) false) (ha:Num w (.slice A n c) x.m) (hx:Rch x) (hT:Tab w) (hP1:16≤P) (hP2:P≤1000) (hB:Bnd B (sz x)) (hB2:B≤132000) (h0:x.m≠0) :
 Calls Tryz.prog 46 #[.pointer (some ⟨g,0,none⟩),dyv true A n c x.e] w (fun e w'=>∃ r,AtOk P (B+3100) r (exQ (-(sz x)))∧SPost TW w g (P:Int) r e w'):=by
 have S:=(std1 hW (.bool true) (.slice A n c) (.int .i64 x.e)).num (((ha.below (alloc_bel w _)).below (alloc_bel _ _)))
 have TB:Hid (∀ w' ks ns,St TW w g (P:Int) false w' ks ns→Tab w'):=Lib.hid (fun w' ks ns h=>hT.wk hW h.O)
 have hbb:=hB.b
 obtain ⟨p,hp⟩:∃ p:Int,p=(P:Int):=⟨_,rfl⟩
 have IZ:Hid (∀ w' ns,St TW w g (P:Int) false w' [(31,w.heap.size+1,zs),(24,w.heap.size,#[.bool true,.slice A n c,.int .i64 x.e])] ns→Num w' (.slice A n c) x.m→Calls Tryz.prog 90 #[.agg #[.bool true,.slice A n c,.int .i64 x.e]] w' (fun r w''=>r=.returned (.bool (decide (x.m=0)))∧Below w'.heap.size w' w'')):=Lib.hid (fun w' ns _ h1=>eisZero_any true x.e h1)
 have C1:Hid (∀ w' ks ns,St TW w g (P:Int) false w' ks ns→Num w' (.slice A n c) x.m→Calls Tryz.prog 92 #[.pointer (some ⟨g,0,none⟩),dyv false A n c x.e] w' (fun e w''=>∃ V E,PowOk P (sz x) V E∧SPost TW w' g (P:Int) (fromR P V E) e w'')):=Lib.hid (fun w' ks ns h h1=>epower_any g P w' h.W h1 (TB.out _ _ _ h) hP1 (by omega) (by have:=hx.b;omega) (by have:=hx.e1;omega) hx.t hx.s)
 obtain ⟨d,d1,d2,d3,d4,d5⟩:=one_sq (p:=(P:Int)) (by omega) (by omega)
 have C4:Hid (∀ w' ks ns,St TW w g (P:Int) false w' ks ns→Calls Tryz.prog 31 #[.pointer (some ⟨g,0,none⟩),.int .i64 1] w' (SPost TW w' g (P:Int) ⟨false,d,d⟩)):=Lib.hid (fun w' ks ns h=>by rw [← d1];exact num_any 1 g (P:Int) false w' h.W (TB.out _ _ _ h) (by omega) (by omega))
 have C5:Hid (∀ w',Calls Tryz.prog 93 #[.agg #[.bool true,.slice A n c,.int .i64 x.e]] w' fun r w''=>r=.returned (.agg #[.bool false,.slice A n c,.int .i64 x.e])∧Below w'.heap.size w' w''):=Lib.hid (fun w'=>esize_any true A n c x.e w')
 have C2:Hid (∀ w' ks ns V E A0 n0 c0 B0 m0 d0 A7 n7 c7 B7 m7 d7,PowOk P (sz x) V E→St TW w g (P:Int) false w' ks ns→Num w' (.slice A7 n7 c7) d.m→Num w' (.slice B7 m7 d7) d.m→Num w' (.slice A0 n0 c0) (fromR P V E).lo.m→Num w' (.slice B0 m0 d0) (fromR P V E).hi.m→Calls Tryz.prog 91 #[.pointer (some ⟨g,0,none⟩),spv d.neg A7 n7 c7 d.e d.neg B7 m7 d7 d.e,spv (fromR P V E).lo.neg A0 n0 c0 (fromR P V E).lo.e (fromR P V E).hi.neg B0 m0 d0 (fromR P V E).hi.e] w' (fun e w''=>∃ r,AtOk P (B+3100) r (exQ (-(sz x)))∧SPost TW w' g (P:Int) r e w'')):=Lib.hid (fun w' ks ns V E _ _ _ _ _ _ _ _ _ _ _ _ ok h h3 h4 h1 h2=>by
  have b1:=ok.b1
  have b2:=ok.b2
  have e1:=ok.e1
  have t1:=ok.top (sz_nonneg x) hB
  obtain ⟨Sq',_⟩:=from_sq (P:=P) (V:=V) (E:=E) (B:=B) (by omega) (by omega) (by omega) (by omega) (by omega) (by omega) (by omega)
  have G:=Sq'.good
  have AO:=exp_neg_ok hP1 hP2 ok (sz_nonneg x) hB hB2 d2 d3
  exact (div_any g (P:Int) false w' h.W (DIn.of_num h3 d4 d5) (DIn.of_num h4 d4 d5) (DIn.of_num h1 G.l2 G.l1) (DIn.of_num h2 G.h2 G.h1) (TB.out _ _ _ h)).mono fun e w'' hp=>⟨_,⟨AO.q.more (by omega),AO.hl,AO.rel⟩,hp⟩)
 have hd:decide (x.m=0)=false:=decide_eq_false h0
 have C3:=IZ.out _ _ S S.ns.1
 rw [hd] at C3
 have HC3:=Lib.hid C3
 rw [← hp] at S C1 C2 C4 ⊢
 clear C3 IZ hp TB hT hW hd hB hB2 hbb hx ha h0 d1 d2 d3 d4 d5
 go_enter Tryz.func46,Tryz.ntmps46
 go_wp2_with fail
 refine HC3.out.mono ?_
 rintro e' v1 ⟨rfl,b1⟩
 replace S:=S.below b1
 clear HC3 b1
 have k0:=S.ks.2.1.1.at_ 0 _ rfl
 have kl:=S.ks.2.1.1.2
 have kl2:=S.ks.1.1.2
 go_upto_region 4 with fail
 have SD:=S.drew
 have HCC:Hid (∀ b' w' ns,St TW w g p b' w' [(31,w.heap.size+1,zs),(24,w.heap.size,#[.bool true,.slice A n c,.int .i64 x.e])] ns→w'.cell? ⟨w.heap.size,0,none⟩=some (.bool true)∧w'.cell? ⟨w.heap.size,1,none⟩=some (.slice A n c)∧w'.cell? ⟨w.heap.size,2,none⟩=some (.int .i64 x.e)):=Lib.hid (fun b' w' ns h=>⟨h.ks.2.1.1.at_ 0 _ rfl,h.ks.2.1.1.at_ 1 _ rfl,h.ks.2.1.1.at_ 2 _ rfl⟩)
 have HPP:Hid (∀ b' w' ns,St TW w g p b' w' [(31,w.heap.size+1,zs),(24,w.heap.size,#[.bool true,.slice A n c,.int .i64 x.e])] ns→∀ q1 q2 q3 q4 q5 q6,(put6 w' (w.heap.size+1) q1 q2 q3 q4 q5 q6).cell? ⟨w.heap.size,0,none⟩=some (.bool true)∧(put6 w' (w.heap.size+1) q1 q2 q3 q4 q5 q6).cell? ⟨w.heap.size,1,none⟩=some (.slice A n c)∧(put6 w' (w.heap.size+1) q1 q2 q3 q4 q5 q6).cell? ⟨w.heap.size,2,none⟩=some (.int .i64 x.e)):=Lib.hid (fun b' w' ns h q1 q2 q3 q4 q5 q6=>⟨(h.ks.2.1.1.only (only_put6 w' (w.heap.size+1) q1 q2 q3 q4 q5 q6) (by omega)).at_ 0 _ rfl,(h.ks.2.1.1.only (only_put6 w' (w.heap.size+1) q1 q2 q3 q4 q5 q6) (by omega)).at_ 1 _ rfl,(h.ks.2.1.1.only (only_put6 w' (w.heap.size+1) q1 q2 q3 q4 q5 q6) (by omega)).at_ 2 _ rfl⟩)
 have XS:=HCC.out _ _ _ SD
 clear S k0
 go_region_held3 (fun w'=>w'.cell? ⟨w.heap.size,0,none⟩=some (.bool true)∧w'.cell? ⟨w.heap.size,1,none⟩=some (.slice A n c)∧w'.cell? ⟨w.heap.size,2,none⟩=some (.int .i64 x.e))
  (first | with_reducible exact HPP.out _ _ _ V4 _ _ _ _ _ _ | with_reducible exact HCC.out _ _ _ V4 | with_reducible exact HCC.out _ _ _ V3 | with_reducible exact HCC.out _ _ _ V2 | with_reducible exact HCC.out _ _ _ V1 | with_reducible exact XS)
  (first
   | (go_at_call 31;refine (C4.out _ _ _ SD).mono ?_;rintro e' v2 ⟨A1,n1,c1,B1,m1,d1,rfl,N1,M1,W1,o1⟩;have V1:=((SD.only o1 W1).num M1).num N1)
   | (go_at_call 93;refine (C5.out _).mono ?_;rintro e' v3 ⟨rfl,b3⟩;have V2:=V1.below b3;have u3:=V2.ns.2.2.1)
   | (go_at_call 92;refine (C1.out _ _ _ V2 u3).mono ?_;rintro e' v4 ⟨V,E,ok,A3,n3,c3,B3,m3,d3,rfl,N3,M3,W3,o3⟩;have V3:=((V2.only o3 (show Wk TW _ g p false from W3)).num M3).num N3;have u1:=V3.ns.1;have u2:=V3.ns.2.1;have u4:=V3.ns.2.2.1;have u5:=V3.ns.2.2.2.1)
   | (go_at_call 91;refine (C2.out _ _ _ _ _ _ _ _ _ _ _ _ _ _ _ _ _ ok V3 u4 u5 u1 u2).mono ?_;rintro e' v5 ⟨r,AO,A4,n4,c4,B4,m4,d4,rfl,N4,M4,W4,o4⟩;have V4:=((V3.only o4 W4).num M4).num N4;have z1:=V4.ks.1.1;have z1c0:=z1.at_ 0 _ rfl;have z1c1:=z1.at_ 1 _ rfl;have z1c2:=z1.at_ 2 _ rfl;have z1c3:=z1.at_ 3 _ rfl;have z1c4:=z1.at_ 4 _ rfl;have z1c5:=z1.at_ 5 _ rfl;have z1f0:=z1.fr 0;have z1f1:=z1.fr 1;have z1f2:=z1.fr 2;have z1f3:=z1.fr 3;have z1f4:=z1.fr 4;have z1f5:=z1.fr 5;have z1l:=z1.2;have z1n:=Nat.ne_of_lt z1.2;have z1n2:=Nat.ne_of_gt z1.2))
 go_wp2_with fail
 obtain ⟨x1,x2,x3,x4⟩:=V4.give (lo:=r.lo) (hi:=r.hi) V4.ns.1 V4.ns.2.1 z1 (by omega)
 exact bodyPost_ret (v:=spv r.lo.neg A4 n4 c4 r.lo.e r.hi.neg B4 m4 d4 r.hi.e) (by simp [results,Tryz.results46,go_sem,z1c0,z1c1,z1c2,z1c3,z1c4,z1c5]) rfl ⟨r,AO,A4,n4,c4,B4,m4,d4,rfl,x1,x2,x3,x4⟩
theorem eexpAt_any {x:DR} {A:Option Addr} {n c:Nat} (g P:Nat) (B:Int) (w:World) (hW:Wk TW w g (P:Int) false) (ha:Num w (.slice A n c) x.m) (hx:Rch x) (hT:Tab w) (hP1:16≤P) (hP2:P≤1000) (hB:Bnd B (sz x)) (hB2:B≤132000) :
 Calls Tryz.prog 46 #[.pointer (some ⟨g,0,none⟩),dyv x.neg A n c x.e] w (fun e w'=>∃ r,AtOk P (B+3100) r (exQ (rv x))∧SPost TW w g (P:Int) r e w'):=by
 by_cases h0:x.m=0
 · rw [rv_zero h0]
   exact eexp_zero g P B w hW ha hT hP1 hP2 hB hB2 x.neg h0
 · cases hn:x.neg
   · rw [rv_pos hn]
     exact eexp_pos g P B w hW ha hx hT hP1 hP2 hB hB2 h0
   · rw [rv_neg hn]
     exact eexp_neg g P B w hW ha hx hT hP1 hP2 hB hB2 h0
end Go.Proofs.YtmbmohibpkepdaaGreatDoor
namespace Go.Proofs.YtmbmohibpkepdaaGreatDoor
open Go.RowKit
structure St2 (T T':TypeId) (w:World) (g:Nat) (p:Int) (wi:World) (ks:List (TypeId×Nat×Array Value)) (ns:List (Value×Nat)) (gi:Nat) (p':Int):Prop where
 S:St T w g p false wi ks ns
 W2:Wk T' wi gi p' false
 hgi:w.heap.size≤gi
 ne:NeS gi ks
section
variable {T T':TypeId} {w wi wj:World} {g gi:Nat} {p p':Int} {ks:List (TypeId×Nat×Array Value)} {ns:List (Value×Nat)}
theorem St2.below (h:St2 T T' w g p wi ks ns gi p') (b:Below wi.heap.size wi wj):St2 T T' w g p wj ks ns gi p':=⟨h.S.below b,h.W2.below b,h.hgi,h.ne⟩
theorem St2.drew (h:St2 T T' w g p wi ks ns gi p'):St2 T T' w g p wi.drew ks ns gi p':=h.below (Below.refl _ wi).drew
theorem St2.num (h:St2 T T' w g p wi ks ns gi p') {v:Value} {V:Nat} (n:Num wi v V):St2 T T' w g p wi ks ((v,V) :: ns) gi p':=⟨h.S.num n,h.W2,h.hgi,h.ne⟩
theorem St2.onI (h:St2 T T' w g p wi ks ns gi p') (o:Only wi wj gi) (W':Wk T' wj gi p' false):St2 T T' w g p wj ks ns gi p' :=
 ⟨h.S.other o h.hgi (h.S.ks.put o h.ne) (h.S.ns.wk h.W2 o),W',h.hgi,h.ne⟩
theorem wk_only {b:Bool} (h:Wk T' wi gi p' b) (o:Only wi wj g) (hne:gi≠g):Wk T' wj gi p' b:=⟨(o.block gi h.2 (by simpa using hne)).trans h.1,Nat.lt_of_lt_of_le h.2 o.size⟩
theorem St2.onC (h:St2 T T' w g p wi ks ns gi p') (o:Only wi wj g) (W':Wk T wj g p false):St2 T T' w g p wj ks ns gi p' :=
 ⟨h.S.only o W',wk_only h.W2 o (by have:=h.S.hg;have:=h.hgi;omega),h.hgi,h.ne⟩
theorem St2.alloc (h:St2 T T' w g p wi ks ns gi p') (U:TypeId) (cs:Array Value):St2 T T' w g p (wi.alloc (.cells cs U)) ((U,wi.heap.size,cs) :: ks) ns gi p' :=
 ⟨h.S.alloc U cs,h.W2.below (alloc_bel wi _),h.hgi,⟨by have:=h.W2.2;omega,h.ne⟩⟩
end
end Go.Proofs.YtmbmohibpkepdaaGreatDoor
