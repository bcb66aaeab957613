/-
 The least and the greatest product of two spans, in plain numbers.
 The least and the greatest of some dyads, in numbers (no memory is named).
 Quotients of dyads, on numbers.
 The reference's quotient of two spans, in numbers, and that it is the code's.
-/
import Derived.Test.YtmbmohibpkepdaaGreatDoorPlEGNumbers
import Derived.Test.YtmbmohibpkepdaaGreatDoorPlEGDy9
import Derived.Test.YtmbmohibpkepdaaGreatDoorPlEGDy12
import Derived.Test.YtmbmohibpkepdaaGreatDoorPlEGSp3
import Derived.Test.YtmbmohibpkepdaaGreatDoorPlEGSp6
import Derived.Test.YtmbmohibpkepdaaGreatDoorPlEGSp4
import Derived.Test.YtmbmohibpkepdaaGreatDoorPlEGSp10
import Derived.Test.YtmbmohibpkepdaaGreatDoorPlEGSp7
namespace Go.Proofs.YtmbmohibpkepdaaGreatDoor
open Go.RowKit
def val (r:DR) (g:Int):Int:=valI r.neg r.m r.e g
theorem val_zero {r:DR} {g:Int} (h:r.m=0):val r g=0:=by
 unfold val valI mag
 rw [h,Nat.zero_mul]
 split <;> rfl
theorem mag_pos {V:Nat} {e g:Int} (h:0 < V):0 < mag V e g:=Nat.mul_pos h (Nat.two_pow_pos _)
theorem val_neg {r:DR} {g:Int} (h:r.neg=true):val r g≤0∧(0 < r.m→val r g < 0):=by
 unfold val valI
 rw [if_pos h]
 exact ⟨by omega,fun h0=>by have:=mag_pos (e:=r.e) (g:=g) h0;omega⟩
theorem val_pos {r:DR} {g:Int} (h:r.neg=false):0≤val r g∧(0 < r.m→0 < val r g):=by
 unfold val valI
 rw [if_neg (by rw [h];decide)]
 exact ⟨by omega,fun h0=>by have:=mag_pos (e:=r.e) (g:=g) h0;omega⟩
theorem val_prod {r s:DR} {g g':Int} (hr:g≤r.e) (hs:g'≤s.e):val (prodN r s) (g+g')=val r g*val s g':=by
 have hm:(mag (r.m*s.m) (r.e+s.e) (g+g'):Int)=(mag r.m r.e g:Int)*(mag s.m s.e g':Int):=by
  rw [← Int.natCast_mul]
  congr 1
  unfold mag
  rw [show (r.e+s.e-(g+g')).toNat=(r.e-g).toNat+(s.e-g').toNat by omega,Nat.pow_add]
  simp only [Nat.mul_assoc,Nat.mul_left_comm]
 unfold val valI prodN
 simp only
 rw [hm]
 cases r.neg <;> cases s.neg <;> simp [Int.neg_mul,Int.mul_neg]
theorem ord_val {r s:DR} {g:Int} (hr:g≤r.e) (hs:g≤s.e) (h:ordD r.neg s.neg r.m s.m r.e s.e≤0):val r g≤val s g:=by
 have m1:=mag_on (Va:=r.m) hr hs
 have m2:=mag_on (Va:=s.m) hs hr
 rw [show min s.e r.e=min r.e s.e by omega] at m2
 have key:∀ {X Y:Nat},X≤Y→X*2^(min r.e s.e-g).toNat≤Y*2^(min r.e s.e-g).toNat:=fun h=>Nat.mul_le_mul_right _ h
 unfold ordD sizeC at h
 unfold val valI
 have hc:∀ {X Y:Nat},cmpN X Y≤0→X≤Y:=fun {X Y} h=>by
  rcases Nat.lt_or_ge Y X with h1 | h1
  · rw [cmpN_gt h1] at h;omega
  · exact h1
 cases hr1:r.neg <;> cases hs1:s.neg <;> rw [hr1,hs1] at h
 · simp only [if_true,Bool.false_eq_true,if_false] at h ⊢
   have:=key (hc h)
   omega
 · simp at h
 · simp only [if_true,Bool.false_eq_true,if_false];omega
 · simp only [if_true] at h ⊢
   rw [cmpN_anti] at h
   have:=key (hc (X:=onE s.m s.e r.e) (Y:=onE r.m r.e s.e) (by omega))
   omega
theorem gr_val {r s:DR} {g:Int} (hr:g≤r.e) (hs:g≤s.e):(grN r s=s∧mag r.m r.e g < mag s.m s.e g)∨(grN r s=r∧mag s.m s.e g≤mag r.m r.e g):=by
 have m1:=mag_on (Va:=r.m) hr hs
 have m2:=mag_on (Va:=s.m) hs hr
 rw [show min s.e r.e=min r.e s.e by omega] at m2
 unfold grN
 by_cases h:onE r.m r.e s.e < onE s.m s.e r.e
 · rw [if_pos h]
   exact .inl ⟨rfl,by rw [m1,m2];exact Nat.mul_lt_mul_of_pos_right h (Nat.two_pow_pos _)⟩
 · rw [if_neg h]
   exact .inr ⟨rfl,by rw [m1,m2];exact Nat.mul_le_mul_right _ (by omega)⟩
structure IsMin (x a1 a2 b1 b2:Int):Prop where
 l1:x≤a1*b1
 l2:x≤a1*b2
 l3:x≤a2*b1
 l4:x≤a2*b2
 one:x=a1*b1∨x=a1*b2∨x=a2*b1∨x=a2*b2
structure IsMax (x a1 a2 b1 b2:Int):Prop where
 l1:a1*b1≤x
 l2:a1*b2≤x
 l3:a2*b1≤x
 l4:a2*b2≤x
 one:x=a1*b1∨x=a1*b2∨x=a2*b1∨x=a2*b2
structure Prods (a1 a2 b1 b2:Int):Prop where
 r1:0≤a1→a1*b1≤a1*b2
 r2:a1≤0→a1*b2≤a1*b1
 r3:0≤a2→a2*b1≤a2*b2
 r4:a2≤0→a2*b2≤a2*b1
 c1:0≤b1→a1*b1≤a2*b1
 c2:b1≤0→a2*b1≤a1*b1
 c3:0≤b2→a1*b2≤a2*b2
 c4:b2≤0→a2*b2≤a1*b2
theorem prods_of {a1 a2 b1 b2:Int} (ha:a1≤a2) (hb:b1≤b2):Prods a1 a2 b1 b2 :=
 ⟨fun h=>Int.mul_le_mul_of_nonneg_left hb h,fun h=>Int.mul_le_mul_of_nonpos_left h hb,fun h=>Int.mul_le_mul_of_nonneg_left hb h,fun h=>Int.mul_le_mul_of_nonpos_left h hb,
  fun h=>Int.mul_le_mul_of_nonneg_right ha h,fun h=>Int.mul_le_mul_of_nonpos_right ha h,fun h=>Int.mul_le_mul_of_nonneg_right ha h,fun h=>Int.mul_le_mul_of_nonpos_right ha h⟩
theorem IsMin.swap {x a1 a2 b1 b2:Int} (h:IsMin x b1 b2 a1 a2):IsMin x a1 a2 b1 b2:=by
 obtain ⟨h1,h2,h3,h4,h5⟩:=h
 rw [Int.mul_comm b1 a1] at h1 h5
 rw [Int.mul_comm b1 a2] at h2 h5
 rw [Int.mul_comm b2 a1] at h3 h5
 rw [Int.mul_comm b2 a2] at h4 h5
 exact ⟨h1,h3,h2,h4,by omega⟩
theorem IsMax.swap {x a1 a2 b1 b2:Int} (h:IsMax x b1 b2 a1 a2):IsMax x a1 a2 b1 b2:=by
 obtain ⟨h1,h2,h3,h4,h5⟩:=h
 rw [Int.mul_comm b1 a1] at h1 h5
 rw [Int.mul_comm b1 a2] at h2 h5
 rw [Int.mul_comm b2 a1] at h3 h5
 rw [Int.mul_comm b2 a2] at h4 h5
 exact ⟨h1,h3,h2,h4,by omega⟩
structure SignV (r:DR) (a:Int):Prop where
 neg:r.neg=true→a < 0
 pos:r.neg=false→0≤a
theorem sign_v {r:DR} {g:Int} (h:PlainR r):SignV r (val r g):=by
 refine ⟨fun hn=>(val_neg hn).2 ?_,fun hn=>(val_pos hn).1⟩
 rcases Nat.eq_zero_or_pos r.m with h0 | h0
 · have:=(h.zero h0).2;rw [this] at hn;cases hn
 · exact h0
theorem above_v {r:DR} {g:Int} (h:aboveI r=false):val r g≤0:=by
 unfold aboveI at h
 cases hn:r.neg
 · rw [hn] at h
   have:r.m=0:=by simpa using h
   rw [val_zero this];exact Int.le_refl 0
 · exact (val_neg hn).1
theorem prods1_val {lo hi lo' hi':DR} {g g':Int} (h1:PlainR lo) (h2:PlainR hi) (h3:PlainR lo') (e1:g≤lo.e) (e2:g≤hi.e) (e3:g'≤lo'.e) (e4:g'≤hi'.e)
 (ha:val lo g≤val hi g) (hb:val lo' g'≤val hi' g') (h0:lo'.neg=true→aboveI hi'=false) :
 IsMin (val (prods1 lo hi lo' hi').1 (g+g')) (val lo g) (val hi g) (val lo' g') (val hi' g')∧IsMax (val (prods1 lo hi lo' hi').2 (g+g')) (val lo g) (val hi g) (val lo' g') (val hi' g'):=by
 have s1:=sign_v (g:=g) h1
 have s2:=sign_v (g:=g) h2
 have s3:=sign_v (g:=g') h3
 have P:=prods_of ha hb
 obtain ⟨q1,q2,q3,q4,q5,q6,q7,q8⟩:=P
 have v11:=val_prod (r:=lo) (s:=lo') e1 e3
 have v12:=val_prod (r:=lo) (s:=hi') e1 e4
 have v21:=val_prod (r:=hi) (s:=lo') e2 e3
 have v22:=val_prod (r:=hi) (s:=hi') e2 e4
 have hab:=fun h=>above_v (g:=g') (h0 h)
 unfold prods1 pickS
 generalize val lo g=a1 at *
 generalize val hi g=a2 at *
 generalize val lo' g'=b1 at *
 generalize val hi' g'=b2 at *
 cases hs:lo'.neg <;> cases hl:lo.neg <;> cases hh:hi.neg <;> simp only [Bool.false_eq_true,if_true,if_false,v11,v12,v21,v22]
 all_goals
  have t1:=s1.neg
  have t2:=s1.pos
  have t3:=s2.neg
  have t4:=s2.pos
  have t5:=s3.neg
  have t6:=s3.pos
  rw [hl] at t1 t2
  rw [hh] at t3 t4
  rw [hs] at t5 t6 hab
  simp at t1 t2 t3 t4 t5 t6 hab
  exact ⟨⟨by omega,by omega,by omega,by omega,by omega⟩,⟨by omega,by omega,by omega,by omega,by omega⟩⟩
theorem above_gt {r:DR} {g:Int} (h:aboveI r=true):0 < val r g:=(val_pos (above_pos h).2).2 (above_pos h).1
theorem prods_val {lo hi lo' hi':DR} {g g':Int} (h1:PlainR lo) (h2:PlainR hi) (h3:PlainR lo') (h4:PlainR hi') (e1:g≤lo.e) (e2:g≤hi.e) (e3:g'≤lo'.e) (e4:g'≤hi'.e)
 (ha:val lo g≤val hi g) (hb:val lo' g'≤val hi' g') :
 IsMin (val (prodsN lo hi lo' hi').1 (g+g')) (val lo g) (val hi g) (val lo' g') (val hi' g')∧IsMax (val (prodsN lo hi lo' hi').2 (g+g')) (val lo g) (val hi g) (val lo' g') (val hi' g'):=by
 unfold prodsN
 cases hs:lo'.neg
 · simp only [Bool.not_false,Bool.true_or,if_true]
   exact prods1_val h1 h2 h3 e1 e2 e3 e4 ha hb (fun h=>by rw [hs] at h;cases h)
 · cases hh':aboveI hi'
   · simp only [Bool.not_false,Bool.or_true,if_true]
     exact prods1_val h1 h2 h3 e1 e2 e3 e4 ha hb (fun _=>hh')
   · cases hl:lo.neg
     · simp only [Bool.not_true,Bool.or_self,Bool.false_eq_true,if_false,Bool.not_false,Bool.true_or,if_true]
       have:=prods1_val h3 h4 h1 e3 e4 e1 e2 hb ha (fun h=>by rw [hl] at h;cases h)
       rw [Int.add_comm g' g] at this
       exact ⟨this.1.swap,this.2.swap⟩
     · cases hh:aboveI hi
       · simp only [Bool.not_true,Bool.or_self,Bool.false_eq_true,if_false,Bool.not_false,Bool.or_true,if_true]
         have:=prods1_val h3 h4 h1 e3 e4 e1 e2 hb ha (fun _=>hh)
         rw [Int.add_comm g' g] at this
         exact ⟨this.1.swap,this.2.swap⟩
       · simp only [Bool.not_true,Bool.or_self,Bool.false_eq_true,if_false]
         have a1:=(sign_v (g:=g) h1).neg hl
         have b1:=(sign_v (g:=g') h3).neg hs
         have a2:=above_gt (g:=g) hh
         have b2:=above_gt (g:=g') hh'
         have v11:=val_prod (r:=lo) (s:=lo') e1 e3
         have v12:=val_prod (r:=lo) (s:=hi') e1 e4
         have v21:=val_prod (r:=hi) (s:=lo') e2 e3
         have v22:=val_prod (r:=hi) (s:=hi') e2 e4
         have n11:(prodN lo lo').neg=false:=by unfold prodN;rw [hl,hs];rfl
         have n12:(prodN lo hi').neg=true:=by unfold prodN;rw [hl,(above_pos hh').2];rfl
         have n21:(prodN hi lo').neg=true:=by unfold prodN;rw [hs,(above_pos hh).2];rfl
         have n22:(prodN hi hi').neg=false:=by unfold prodN;rw [(above_pos hh).2,(above_pos hh').2];rfl
         have m11:val (prodN lo lo') (g+g')=(mag (prodN lo lo').m (prodN lo lo').e (g+g'):Int):=by unfold val valI;rw [n11];rfl
         have m12:val (prodN lo hi') (g+g')=-(mag (prodN lo hi').m (prodN lo hi').e (g+g'):Int):=by unfold val valI;rw [n12];rfl
         have m21:val (prodN hi lo') (g+g')=-(mag (prodN hi lo').m (prodN hi lo').e (g+g'):Int):=by unfold val valI;rw [n21];rfl
         have m22:val (prodN hi hi') (g+g')=(mag (prodN hi hi').m (prodN hi hi').e (g+g'):Int):=by unfold val valI;rw [n22];rfl
         have x11:0≤val lo g*val lo' g':=Int.mul_nonneg_of_nonpos_of_nonpos (by omega) (by omega)
         have x22:0≤val hi g*val hi' g':=Int.mul_nonneg (by omega) (by omega)
         have x12:val lo g*val hi' g'≤0:=Int.mul_nonpos_of_nonpos_of_nonneg (by omega) (by omega)
         have x21:val hi g*val lo' g'≤0:=Int.mul_nonpos_of_nonneg_of_nonpos (by omega) (by omega)
         have g1:=gr_val (r:=prodN lo hi') (s:=prodN hi lo') (g:=g+g') (by show _≤lo.e+hi'.e;omega) (by show _≤hi.e+lo'.e;omega)
         have g2:=gr_val (r:=prodN lo lo') (s:=prodN hi hi') (g:=g+g') (by show _≤lo.e+lo'.e;omega) (by show _≤hi.e+hi'.e;omega)
         constructor
         · rcases g1 with ⟨e,h⟩ | ⟨e,h⟩ <;> rw [e]
           · exact ⟨by omega,by omega,by omega,by omega,by omega⟩
           · exact ⟨by omega,by omega,by omega,by omega,by omega⟩
         · rcases g2 with ⟨e,h⟩ | ⟨e,h⟩ <;> rw [e]
           · exact ⟨by omega,by omega,by omega,by omega,by omega⟩
           · exact ⟨by omega,by omega,by omega,by omega,by omega⟩
end Go.Proofs.YtmbmohibpkepdaaGreatDoor
namespace Go.Proofs.YtmbmohibpkepdaaGreatDoor
open Go.RowKit
structure Up (r:DR) (g:Int):Prop where
 ok:r.ok=true
 z:r.m=0→r.neg=false
 e:g≤r.e
theorem cmp_val {r s:DR} {g:Int} (hr:Up r g) (hs:Up s g):decide (cmpI2 r s < 0)=decide (val r g < val s g):=by
 have h1:cmpI2 r s=ordD r.neg s.neg r.m s.m r.e s.e:=by unfold cmpI2 cmpD;rw [hr.ok,hs.ok];rfl
 have h2:cmpI2 s r=ordD s.neg r.neg s.m r.m s.e r.e:=by unfold cmpI2 cmpD;rw [hr.ok,hs.ok];rfl
 have h3:=cmpI2_anti r s
 by_cases h:val s g≤val r g
 · have:=ord_le (g:=g) hs.z hr.z (.inr hs.e) (.inr hr.e) h
   rw [decide_eq_false (by omega),decide_eq_false (by omega)]
 · have h4:¬ ordD s.neg r.neg s.m r.m s.e r.e≤0:=fun h4=>h (ord_val hs.e hr.e h4)
   rw [decide_eq_true (by omega),decide_eq_true (by omega)]
end Go.Proofs.YtmbmohibpkepdaaGreatDoor
namespace Go.Proofs.YtmbmohibpkepdaaGreatDoor
open Go.RowKit
theorem cut_lt {V p:Nat} (hp:p≤nb V):V/2^(nb V-p) < 2^p:=by
 have h:=nb_lt (V/2^(nb V-p))
 rw [nb_div_pow,show nb V-(nb V-p)=p by omega] at h
 exact h
def qN (r s:DR) (P:Nat) (up:Bool):DR:=quoD r.neg s.neg r.m s.m r.e s.e (P+nb s.m-nb r.m) P up
structure Bd (r:DR):Prop where
 b:nb r.m≤3000
 lo:-30000≤r.e
 hi:r.e≤30000
 z:r.m=0→r.neg=false
theorem overI_qN {r s:DR} {p:Int} (up:Bool) (hr:r.ok=true) (hs:s.ok=true) (h:0 < s.m) (hp:bitsFitB p=true):overI r s p up=qN r s p.toNat up:=by
 unfold overI overD qN
 rw [hr,hs,hp,show decide (s.m=0)=false from decide_eq_false (by omega)]
 rfl
end Go.Proofs.YtmbmohibpkepdaaGreatDoor
namespace Go.Proofs.YtmbmohibpkepdaaGreatDoor
open Go.RowKit
theorem pl_up {r:DR} (h:Pl r):Up r (-300000):=by
 have P:=plainR_of h.pl
 exact ⟨h.ok,fun h0=>(P.zero h0).2,by have:=P.e1;omega⟩
structure Above (lo hi:DR):Prop where
 b1:Bd lo
 b2:Bd hi
 o1:lo.ok=true
 o2:hi.ok=true
 m1:0 < lo.m
 n1:lo.neg=false
 m2:0 < hi.m
 n2:hi.neg=false
 le:val lo (-30000)≤val hi (-30000)
structure Any2 (lo hi:DR):Prop where
 b1:Bd lo
 b2:Bd hi
 o1:lo.ok=true
 o2:hi.ok=true
 le:val lo (-30000)≤val hi (-30000)
section
variable {p:Int} {lo hi lo' hi':DR} (hx:Any2 lo hi) (hy:Above lo' hi') (hp1:1≤p) (hp2:p≤600)
include hx hy hp1 hp2
end
theorem negI_val {r:DR} (h:r.ok=true) (g:Int):val (negI r) g=- val r g:=by
 unfold negI
 rw [h]
 simp only [if_true]
 by_cases h0:r.m=0
 · rw [if_pos h0,val_zero h0,val_zero (show DR.zero.m=0 from rfl)];rfl
 · rw [if_neg h0]
   unfold val valI
   cases r.neg <;> simp
theorem negI_bd {r:DR} (h:r.ok=true) (b:Bd r):Bd (negI r)∧(negI r).ok=true:=by
 unfold negI
 rw [h]
 simp only [if_true]
 by_cases h0:r.m=0
 · rw [if_pos h0]
   exact ⟨⟨by show nb 0≤3000;rw [nb_zero];omega,by show (-30000:Int)≤0;omega,by show (0:Int)≤30000;omega,fun _=>rfl⟩,rfl⟩
 · rw [if_neg h0]
   exact ⟨⟨b.b,b.lo,b.hi,fun h=>absurd h h0⟩,rfl⟩
theorem Any2.neg {lo hi:DR} (h:Any2 lo hi):Any2 (negI hi) (negI lo):=by
 have h1:=negI_bd h.o1 h.b1
 have h2:=negI_bd h.o2 h.b2
 exact ⟨h2.1,h1.1,h2.2,h1.2,by rw [negI_val h.o1,negI_val h.o2];have:=h.le;omega⟩
theorem sign_cases {lo hi:DR} (h:rightI lo hi=true):(lo.m≠0∧lo.neg=false∧signI lo hi=1)∨(hi.neg=true∧signI lo hi=-1)∨signI lo hi=0:=by
 unfold signI signS
 rw [h]
 simp only [if_true]
 by_cases h0:lo.m=0
 · rw [if_pos h0,if_neg (fun h=>h.1 rfl)]
   cases hi.neg
   · exact .inr (.inr rfl)
   · exact .inr (.inl ⟨rfl,rfl⟩)
 · rw [if_neg h0]
   cases hn:lo.neg
   · exact .inl ⟨h0,rfl,if_pos ⟨by omega,rfl⟩⟩
   · rw [if_neg (fun h=>by cases h.2)]
     cases hi.neg
     · exact .inr (.inr rfl)
     · exact .inr (.inl ⟨rfl,rfl⟩)
end Go.Proofs.YtmbmohibpkepdaaGreatDoor
