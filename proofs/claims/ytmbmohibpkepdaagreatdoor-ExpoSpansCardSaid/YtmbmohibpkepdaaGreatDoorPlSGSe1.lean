import Derived.Test.YtmbmohibpkepdaaGreatDoorPlSGSp6
import Derived.Test.YtmbmohibpkepdaaGreatDoorPlSGSp9
import Derived.Test.YtmbmohibpkepdaaGreatDoorPlSGSp5
set_option maxHeartbeats 4000000
set_option maxRecDepth 8000
open Go.Proofs.Tryz renaming prog->lY
open Go.Lib renaming hid->mF
namespace Go.Proofs.YtmbmohibpkepdaaGreatDoor
open Go.RowKit
variable {A B:OA} {c d g m n:Nat} {r s:DR} {w:World}
structure Fm where
 sum:Nat
 odds:Nat
 below:Nat
theorem kV (t:TypeId)(w:World)(r g:Nat)(z:Int)(hr:r < ai)(hz:z=(r:Int))(hg:g=w.heap.size):Sl (w.alloc (.cells #[.int .u64 z] t)) (some ⟨g,0,none⟩) 1 1 (fun _=>r):=by
 subst hz hg;exact gf t w r hr
theorem lT {v:Value}{V:Nat}(h:am w v V)(o:Obj):am (w.alloc o) v V:=h.below (ag w o)
section
variable {w v:World} {tm n g1 g2:Nat} {ra rb:Fm} {A1 B1 C1:OA} {a1 b1 c1 d1 x1 y1:Nat} {A2 B2 C2:OA} {a2 b2 c2 d2 x2 y2:Nat}
end
section
variable {TW:TypeId}
theorem NS.put6 {na nb':Bool}{ea eb:Int}(hb:ej w g (.bool na) (.slice A n c) (.int .i64 ea) (.bool nb') (.slice B m d) (.int .i64 eb))(x y z x' y' z':Value):∀ {ns:List (Value×Nat)},NS w ns->NS (put6 w g x y z x' y' z') ns
 | [],_=>trivial
 | (_,_) :: _,h=>⟨jd h.1 hb x y z x' y' z',NS.put6 hb x y z x' y' z' h.2⟩
theorem iI {T:TypeId}{wi:World}{p:Int}{bad:Bool}{ks:List (TypeId×Nat×Array Value)}{ns:List (Value×Nat)}(h:St T w g p bad wi ks ns){a:Nat}(k:KC 31 wi a zs)(ha:w.heap.size<=a)(hne:mG a ks)(x y z x' y' z':Value):
 St T w g p bad (put6 wi a x y z x' y' z') ((31,a,#[x,y,z,x',y',z']) :: ks) ns :=
 (h.other (aK _ _ _ _ _ _ _ _) ha (h.ks.put (aK _ _ _ _ _ _ _ _) hne) (h.ns.put6 k.b6 x y z x' y' z')).blk (k.put6 x y z x' y' z') (by have:=h.hg;omega)
theorem pT :∀ {ks:List (TypeId×Nat×Array Value)},KS w g ks->mG w.heap.size ks
 | [],_=>trivial
 | (_,_,_) :: _,h=>⟨Nat.ne_of_lt h.1.1.2,pT h.2⟩
def EP (T:TypeId)(w:World)(g:Nat)(p:Int)(ks:List (TypeId×Nat×Array Value))(ns:List (Value×Nat))(r:SRes)(s:Value)(wx:World):Prop:=∃ a A n c B m d,s=.pointer (some ⟨a,0,none⟩)/\w.heap.size<=a/\mG a ks/\St T w g p r.bad wx ((31,a,s6 r.lo A n c r.hi B m d) :: ks) ((.slice A n c,r.lo.m) :: (.slice B m d,r.hi.m) :: ns)
section
variable {T:TypeId} {w v:World} {g:Nat} {p:Int} {ks:List (TypeId×Nat×Array Value)} {ns ns':List (Value×Nat)} {r:SRes} {A B:OA} {n c m d a:Nat}
theorem DW (h:St T w g p r.bad v ks ns')(h1:am v (.slice A n c) r.lo.m)(h2:am v (.slice B m d) r.hi.m)(hn:NS v ns)(k:KC 31 v a zs)(ha:w.heap.size<=a)(hne:mG a ks):
 EP T w g p ks ns r (.pointer (some ⟨a,0,none⟩)) (put6 v a (.bool r.lo.neg) (.slice A n c) (.int .i64 r.lo.e) (.bool r.hi.neg) (.slice B m d) (.int .i64 r.hi.e)):=by
 have h':St T w g p r.bad v ks ((.slice A n c,r.lo.m) :: (.slice B m d,r.hi.m) :: ns):=⟨h.hg,h.O,h.W,h.ks,h1,h2,hn⟩;exact⟨a,A,n,c,B,m,d,rfl,ha,hne,iI h' k ha hne _ _ _ _ _ _⟩
theorem DY (h:St T w g p r.bad v ks ns')(h1:am v (.slice A n c) r.lo.m)(h2:am v (.slice B m d) r.hi.m)(hn:NS v ns):
 EP T w g p ks ns r (.pointer (some ⟨v.heap.size,0,none⟩)) (v.alloc (.cells #[.bool r.lo.neg,.slice A n c,.int .i64 r.lo.e,.bool r.hi.neg,.slice B m d,.int .i64 r.hi.e] 31)):=by
 have h':St T w g p r.bad v ks ((.slice A n c,r.lo.m) :: (.slice B m d,r.hi.m) :: ns):=⟨h.hg,h.O,h.W,h.ks,h1,h2,hn⟩;exact⟨v.heap.size,A,n,c,B,m,d,rfl,h.size,pT h.ks,h'.alloc _ _⟩
end
end
theorem vY (w:World)(ha:aC w A n c r)(hb:aC w B m d s):
 Calls lY 25 #[aP r.neg A n c r.e,aP s.neg B m d s.e] w (vx w (cB r s) (r.ok && s.ok)):=by
 obtain⟨x,a1,a2,a3,a4⟩:=ha;obtain⟨y,b1,b2,b3,b4⟩:=hb
 have:=lP r.neg s.neg A B n c m d x y r.e s.e w a1 b1 a2 b2
 unfold cB;rw[a3,b3,a4,b4];exact this
theorem zF {lo hi lo' hi':DR}{A' B':OA}{n' c' m' d':Nat}(w:World)(ha:aC w A n c lo)(hb:aC w B m d hi)(ha':aC w A' n' c' lo')(hb':aC w B' m' d' hi')
 (h1:lo.ok=true) (h2:hi.ok=true) (h3:lo'.ok=true) (h4:hi'.ok=true) (hx:cB lo hi'<=0) (hy:cB lo' hi<=0) :
 Calls lY 26 #[aG lo.neg A n c lo.e hi.neg B m d hi.e,aG lo'.neg A' n' c' lo'.e hi'.neg B' m' d' hi'.e] w (cz w):=by
 obtain⟨bel,kA,kB,hsz⟩:=rY w (.bool lo.neg) (.slice A n c) (.int .i64 lo.e) (.bool hi.neg) (.slice B m d) (.int .i64 hi.e) (.bool lo'.neg) (.slice A' n' c') (.int .i64 lo'.e) (.bool hi'.neg) (.slice B' m' d') (.int .i64 hi'.e);have C1:=mF (vY _ (ha.below bel) (hb'.below bel));rw[h1,h4]at C1
 have D1:Hid (∀ w',Below w.heap.size w w'->Calls lY 25 #[aP lo'.neg A' n' c' lo'.e,aP hi.neg B m d hi.e] w' (vx w' (cB lo' hi) true)):=mF (fun w' b=>by
  have:=vY w' (ha'.below b) (hb.below b)
  rw[h3,h2]at this
  exact this)
 obtain⟨k0,k1,k2,k3,k4,k5⟩:=kA.cell;obtain⟨l0,l1,l2,l3,l4,l5⟩:=kB.cell;clear ha hb ha' hb' h1 h2 h3 h4;generalize cB lo hi'=x at *;generalize cB lo' hi=y at *;go_enter Tryz.func26,Tryz.ntmps26;go_wp2_with fail;refine C1.out.mono ?_;generalize(w.alloc (ce (.bool lo.neg) (.slice A n c) (.int .i64 lo.e) (.bool hi.neg) (.slice B m d) (.int .i64 hi.e))).alloc (ce (.bool lo'.neg) (.slice A' n' c') (.int .i64 lo'.e) (.bool hi'.neg) (.slice B' m' d') (.int .i64 hi'.e))=w1 at *;rintro e' w2 ⟨rfl,b⟩;have B2:=aB bel b;have kA2:=kA.below b (by omega);have kB2:=kB.below b (by omega);clear C1 b bel kA kB k0 k1 k2 k3 k4 k5 l0 l1 l2 l3 l4 l5;obtain⟨k0,k1,k2,k3,k4,k5⟩:=kA2.cell;obtain⟨l0,l1,l2,l3,l4,l5⟩:=kB2.cell;go_wp2_with fail;refine(D1.out _ B2).mono ?_;rintro e' w3 ⟨rfl,b⟩;have B3:=aB B2 b;clear D1 b B2 kA2 kB2 k0 k1 k2 k3 k4 k5 l0 l1 l2 l3 l4 l5;go_wp2_with fail;go_ret;exact⟨rfl,B3⟩
def lo2 (r s:DR):Int:=if r.m=0 then(if s.m=0 then 0 else s.e) else if s.m=0 then r.e else min r.e s.e
def hi2 (r s:DR):Int:=if r.m=0 then(if s.m=0 then 0 else s.e) else if s.m=0 then r.e else max r.e s.e
def ir (r s:DR)(sg:Bool)(lo:Int):Nat:=(if r.neg=sg then r.m*2^(r.e-lo).toNat else 0)+(if s.neg=sg then s.m*2^(s.e-lo).toNat else 0)
def cK (r s:DR):DR :=
 if hi2 r s-lo2 r s<=262144 then
  (if ir r s true (lo2 r s)<=ir r s false (lo2 r s) then bH false (ir r s false (lo2 r s)-ir r s true (lo2 r s)) (lo2 r s) else bH true (ir r s true (lo2 r s)-ir r s false (lo2 r s)) (lo2 r s))
 else DR.no
def Ad (r s:DR)(A B:OA)(n c m d:Nat)(x y:Nat->Nat):DL :=
 ⟨fun j=>if j=0 then r.neg else s.neg,fun j=>if j=0 then A else B,fun j=>if j=0 then n else m,fun j=>if j=0 then c else d,fun j=>if j=0 then x else y,fun j=>if j=0 then r.e else s.e⟩
theorem vz {x y:Nat->Nat}(hx:r.m=vs ai x n)(hy:s.m=vs ai y m)(h1:n=0 ↔ r.m=0)(h2:m=0 ↔ s.m=0):jO true (Ad r s A B n c m d x y) 2=cK r s:=by
 have hl:kh (Ad r s A B n c m d x y) 2=lo2 r s:=by
  unfold kh lo2
  by_cases e1:n=0 <;> by_cases e2:m=0 <;> simp[kt,Ad,e1,e2,h1.1,h2.1,(not_congr h1).1,(not_congr h2).1]
 have hh:uR (Ad r s A B n c m d x y) 2=hi2 r s:=by
  unfold uR hi2
  by_cases e1:n=0 <;> by_cases e2:m=0 <;> simp[kt,Ad,e1,e2,h1.1,h2.1,(not_congr h1).1,(not_congr h2).1]
 have hp:∀ sg lo,aY (Ad r s A B n c m d x y) sg lo 2=ir r s sg lo:=fun sg lo=>by
  unfold ir;rw[hx,hy]
  simp[aY,Ad,DL.v]
 unfold jO cK;rw[hl,hh,hp,hp]
 simp
theorem yK (w:World)(ha:aC w A n c r)(hb:aC w B m d s)(h1:r.ok=true)(h2:s.ok=true)(hT:bx w):
 Calls lY 83 #[.slice (some ⟨w.heap.size,0,none⟩) 2 2] (w.alloc (.cells #[.bool r.neg,.slice A n c,.int .i64 r.e,.bool s.neg,.slice B m d,.int .i64 s.e] 24))
  (DP (w.alloc (.cells #[.bool r.neg,.slice A n c,.int .i64 r.e,.bool s.neg,.slice B m d,.int .i64 s.e] 24)) (cK r s)):=by
 have pa:=ha.plain h1;have pb:=hb.plain h2;have z1:=ha.len0 h1;have z2:=hb.len0 h2;obtain⟨x,a1,a2,a3,a4⟩:=ha;obtain⟨y,b1,b2,b3,b4⟩:=hb;have bB:=ag w (.cells #[.bool r.neg,.slice A n c,.int .i64 r.e,.bool s.neg,.slice B m d,.int .i64 s.e] 24);have k:=KC.made 24 w #[.bool r.neg,.slice A n c,.int .i64 r.e,.bool s.neg,.slice B m d,.int .i64 s.e]
 have hL:Ls (w.alloc (.cells #[.bool r.neg,.slice A n c,.int .i64 r.e,.bool s.neg,.slice B m d,.int .i64 s.e] 24)) (some ⟨w.heap.size,0,none⟩) 2 2 (Ad r s A B n c m d x y):=by
  refine⟨Nat.le_refl _,fun _=>⟨_,rfl,k.2,fun j hj=>?_⟩,fun j hj=>?_⟩
  . have:j=0\/j=1:=by omega
    rcases this with rfl | rfl
    . exact(k.c3)
    . exact⟨k.at_ 3 _ rfl,k.at_ 4 _ rfl,k.at_ 5 _ rfl⟩
  . have:j=0\/j=1:=by omega
    rcases this with rfl | rfl
    . exact a1.below bB
    . exact b1.below bB
 have hall:gP (Ad r s A B n c m d x y) 2=true:=by
  simp only[gP,Bool.true_and,Bool.and_eq_true];exact⟨by rw[← h1,a4];rfl,by rw[← h2,b4];rfl⟩
 have h:=yL _ 2 2 _ _ hL (by omega) (fun j hj=>by
  have:j=0\/j=1:=by omega
  rcases this with rfl | rfl
  . exact a2
  . exact b2) (hT.below bB) (fun j hj=>by
  have:j=0\/j=1:=by omega
  rcases this with rfl | rfl
  . have:=pa.e1;have:=pa.e2;exact⟨by show -9223372036854775808<=r.e;omega,by show r.e<=9223372036854775807;omega⟩
  . have:=pb.e1;have:=pb.e2;exact⟨by show -9223372036854775808<=s.e;omega,by show s.e<=9223372036854775807;omega⟩)
 rw[hall,vz a3 b3 z1 z2]at h
 exact h.mono fun _ _ h=>h.dp
theorem Du (w:World)(ha:aC w A n c r)(hT:bx w):Calls lY 82 #[aP r.neg A n c r.e] w (DP w (aT r)):=by
 have da:=ha;obtain⟨x,a1,a2,a3,a4⟩:=ha;have h:=nE r.neg A n c x r.e w a1 a2 hT;rw[jG da a3 a4]at h
 exact h.mono fun _ _ h=>h.dp
theorem oc {lo hi:DR}(z:Int)(w:World)(ha:aC w A n c lo)(hb:aC w B m d hi)(hT:bx w)(h1:lo.ok=true)(h2:hi.ok=true)(hr:aw lo hi=true)
 (hs:(cK hi (aT lo)).ok=true) (hc:cB (cK hi (aT lo)) ⟨true,false,1,z⟩<=0) (hz1:-262144<=z) (hz2:z<=262144) :
 Calls lY 40 #[aG lo.neg A n c lo.e hi.neg B m d hi.e,.int .i64 z] w (cz w):=by
 have P0:Pu w (w.alloc (ce (.bool lo.neg) (.slice A n c) (.int .i64 lo.e) (.bool hi.neg) (.slice B m d) (.int .i64 hi.e))) [(31,w.heap.size,s6 lo A n c hi B m d)] []:=Pu.alloc (⟨Below.refl _ w,trivial,trivial⟩:Pu w w [] []) 31 #[.bool lo.neg,.slice A n c,.int .i64 lo.e,.bool hi.neg,.slice B m d,.int .i64 hi.e]
 have q1:(aT lo).ok=true:=by unfold aT;rw[h1];simp only[if_true];split <;> rfl
 have hlp:=ha.plain h1
 have hp1:(aT lo).ok=true->bl (aT lo):=fun h=>by
  have:=jF (r:=lo) (fun _=>hlp) h
  exact aV this
 obtain⟨r,hre⟩:=du (aT lo);obtain⟨s,hse⟩:=du (cK hi (aT lo));rw[← hse]at hs hc;rw[← hre]at q1 hp1 hse;have CN:Hid (∀ w',Below w.heap.size w w'->Calls lY 82 #[aP lo.neg A n c lo.e] w' (DP w' r)):=mF (fun w' b=>by rw[hre];exact Du w' (ha.below b) (hT.below b));have CS:Hid (∀ w' X x y,Below w.heap.size w w'->am w' (.slice X x y) r.m->Calls lY 83 #[.slice (some ⟨w'.heap.size,0,none⟩) 2 2] (w'.alloc (.cells #[.bool hi.neg,.slice B m d,.int .i64 hi.e,.bool r.neg,.slice X x y,.int .i64 r.e] 24)) (DP (w'.alloc (.cells #[.bool hi.neg,.slice B m d,.int .i64 hi.e,.bool r.neg,.slice X x y,.int .i64 r.e] 24)) s)):=mF (fun w' X x y b h=>by rw[hse];exact yK w' (hb.below b) (aC.of_num h (hp1 q1).pl q1) h2 q1 (hT.below b))
 have CR:Hid (∀ w',Below w.heap.size w w'->Calls lY 24 #[aG lo.neg A n c lo.e hi.neg B m d hi.e] w' fun o w2=>o=.returned (.bool true)/\Below w'.heap.size w' w2):=mF (fun w' b=>by
  obtain⟨x,a1,a2,a3,a4⟩:=ha.below b;obtain⟨y,b1,b2,b3,b4⟩:=hb.below b;have h:=gD lo.neg hi.neg A B n c m d x y lo.e hi.e w' a1 b1 a2 b2;rw[show bG (aj lo.neg n x lo.e && aj hi.neg m y hi.e) lo.neg hi.neg (vs ai x n) (vs ai y m) lo.e hi.e=true by rw[← a3,← a4,← b3,← b4];exact hr]at h
  exact h)
 have hsp:aR s.neg s.m s.e=true:=by
  have:kq s:=by
   rw[hse];unfold cK
   split
   . split <;> exact gZ _ _ _
   . exact mT
  exact this hs
 have CC:Hid (∀ w' X x y Y,am w' (.slice X x y) s.m->am w' (.slice (some ⟨Y,0,none⟩) 1 1) 1->Calls lY 25 #[aP s.neg X x y s.e,aP false (some ⟨Y,0,none⟩) 1 1 z] w' fun o w2=>∃ k:Int,k<=0/\o=.returned (.tuple #[.int .i64 k,.bool true])/\Below w'.heap.size w' w2):=mF (fun w' X x y Y h h'=>by
  have hone:aR false 1 z=true:=by
   unfold aR;rw[if_neg (by omega)]
   have h1:nb 1=1:=by decide
   have h2:cR z:=⟨hz1,hz2⟩
   simp[h1,MB,h2]
  have k:=vY (r:=s) (s:=⟨true,false,1,z⟩) w' (aC.of_num h hsp hs) (aC.of_num h' hone rfl);rw[hs]at k;refine k.mono ?_;rintro e w2 ⟨rfl,b⟩
  exact⟨_,hc,rfl,b⟩)
 obtain⟨k0,k1,k2,k3,k4,k5⟩:=P0.ks.1.c6;have HP0:=mF P0;have hsok:=mF hs;clear hlp hp1 hre hse hs hc hr ha hb hT h1 h2 P0 hsp;go_enter Tryz.func40,Tryz.ntmps40;go_wp2_with fail;refine(CN.out _ HP0.out.bel).mono ?_;have P:=HP0.out;clear k0 k1 k2 k3 k4 k5 HP0 CN;generalize w.alloc (ce (.bool lo.neg) (.slice A n c) (.int .i64 lo.e) (.bool hi.neg) (.slice B m d) (.int .i64 hi.e))=w1 at *;rintro e' w2 ⟨X1,x1,y1,rfl,N1,b⟩;have P2:=(P.below b).num N1;clear P N1 b;rw[q1];have P3:=P2.alloc 24 #[.bool r.neg,.slice X1 x1 y1,.int .i64 r.e];obtain⟨k0,k1,k2,k3,k4,k5⟩:=P2.ks.1.c6;have hl:=P2.ks.1.2;have CSx:=CS.out (w2.alloc (.cells #[.bool r.neg,.slice X1 x1 y1,.int .i64 r.e] 24)) X1 x1 y1 P3.bel P3.ns.1;rw[show(w2.alloc (.cells #[.bool r.neg,.slice X1 x1 y1,.int .i64 r.e] 24)).heap.size=w2.heap.size+1 by simp]at CSx;have HCS:=mF CSx;have HP3:=mF P3;clear CS CSx P3;go_wp2_with fail;refine HCS.out.mono ?_;clear HCS k0 k1 k2 k3 k4 k5 hl;have P4:=HP3.out.below (ag (w2.alloc (.cells #[.bool r.neg,.slice X1 x1 y1,.int .i64 r.e] 24)) (.cells #[.bool hi.neg,.slice B m d,.int .i64 hi.e,.bool r.neg,.slice X1 x1 y1,.int .i64 r.e] 24));generalize(w2.alloc (.cells #[.bool r.neg,.slice X1 x1 y1,.int .i64 r.e] 24)).alloc (.cells #[.bool hi.neg,.slice B m d,.int .i64 hi.e,.bool r.neg,.slice X1 x1 y1,.int .i64 r.e] 24)=w4 at *;rintro e' w5 ⟨X5,x5,y5,rfl,N5,b5⟩;have P5:=(P4.below b5).num N5;clear P4 HP3 N5 b5 P2;rw[hsok.out];have P6:=P5.alloc 24 #[.bool s.neg,.slice X5 x5 y5,.int .i64 s.e];obtain⟨k0,k1,k2,k3,k4,k5⟩:=P5.ks.2.1.c6;have hl:=P5.ks.2.1.2;have HP6:=mF P6;have hz5:w.heap.size≠w5.heap.size:=Nat.ne_of_lt hl;clear P5 P6;go_wp2_with fail;refine(CR.out _ HP6.out.bel).mono ?_;clear CR k0 k1 k2 k3 k4 k5 hl hz5;have P6:=HP6.out;generalize w5.alloc (.cells #[.bool s.neg,.slice X5 x5 y5,.int .i64 s.e] 24)=w6 at *;rintro e' w7 ⟨rfl,b7⟩;have P7:=P6.below b7;clear P6 HP6 b7;obtain⟨k0,k1,k2⟩:=P7.ks.1.c3;have hl:=P7.ks.1.2;have S1:=kV 51 w7 1 w7.heap.size 1 (by unfold ai;omega) (by omega) rfl;have N1:am (w7.alloc (.cells #[.int .u64 1] 51)) (.slice (some ⟨w7.heap.size,0,none⟩) 1 1) 1:=⟨_,_,_,_,rfl,S1,.inr (show 1≠0 by omega),f5 _ _⟩;have P8:=P7.below (ag w7 (.cells #[.int .u64 1] 51));have CCx:=CC.out _ _ _ _ _ P8.ns.1 N1;have HCC:=mF CCx;have HB8:=mF P8.bel;clear CC CCx S1 N1 P8 P7;go_wp2_with fail;refine HCC.out.mono ?_;clear HCC k0 k1 k2 hl;generalize w7.alloc (.cells #[.int .u64 1] 51)=w8 at *;rintro e' w9 ⟨k,hk,rfl,b9⟩;have B9:=aB HB8.out b9
 go_wp2_with fail;go_ret;exact⟨rfl,B9⟩
end Go.Proofs.YtmbmohibpkepdaaGreatDoor
