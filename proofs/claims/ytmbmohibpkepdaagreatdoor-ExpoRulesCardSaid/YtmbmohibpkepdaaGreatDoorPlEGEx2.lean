/-
 Sequences of rational numbers, and what a span holds of them in the end. No program is named here.
 The partial sums of e to the x as sequences, for rational numbers of either sign: sums become products, and what is greater has the greater power. No program is named here.
 How great the numbers of power's squares are; the series of the hyperbolic cosine, and of the sine over its number. No program is named here.
-/
import Derived.Test.YtmbmohibpkepdaaGreatDoorPlEGEx1
namespace Go.Proofs.YtmbmohibpkepdaaGreatDoor
theorem rat_total (a b:Rat):a≤b∨b≤a:=Rat.le_total
theorem rat_div_pos {a b:Rat} (ha:0 < a) (hb:0 < b):0 < a/b:=by
 rw [Rat.div_def]
 exact Rat.mul_pos ha (Rat.inv_pos.2 hb)
theorem abs_mul {a b x y:Rat} (h1:-a≤x) (h2:x≤a) (h3:-b≤y) (h4:y≤b):-(a*b)≤x*y∧x*y≤a*b:=by
 have k1:0≤(a-x)*(b+y):=Rat.mul_nonneg (by grind) (by grind)
 have k2:0≤(a+x)*(b-y):=Rat.mul_nonneg (by grind) (by grind)
 have k3:0≤(a-x)*(b-y):=Rat.mul_nonneg (by grind) (by grind)
 have k4:0≤(a+x)*(b+y):=Rat.mul_nonneg (by grind) (by grind)
 constructor <;> grind
theorem corner_le {a b c d x y L:Rat} (h1:a≤x) (h2:x≤b) (h3:c≤y) (h4:y≤d) (k1:L≤a*c) (k2:L≤a*d) (k3:L≤b*c) (k4:L≤b*d):L≤x*y:=by
 have side:∀ z,L≤z*c→L≤z*d→L≤z*y:=fun z u v=>by
  rcases rat_total 0 z with hz | hz
  · have:=Rat.mul_le_mul_of_nonneg_left h3 hz
    grind
  · have:=Rat.mul_le_mul_of_nonneg_left h4 (show (0:Rat)≤-z by grind)
    grind
 have sa:=side a k1 k2
 have sb:=side b k3 k4
 rcases rat_total 0 y with hy | hy
 · have:=Rat.mul_le_mul_of_nonneg_right h1 hy
   grind
 · have:=Rat.mul_le_mul_of_nonneg_right h2 (show (0:Rat)≤-y by grind)
   grind
theorem corner_ge {a b c d x y H:Rat} (h1:a≤x) (h2:x≤b) (h3:c≤y) (h4:y≤d) (k1:a*c≤H) (k2:a*d≤H) (k3:b*c≤H) (k4:b*d≤H):x*y≤H:=by
 have:=corner_le (a:=-b) (b:=-a) (c:=c) (d:=d) (x:=-x) (y:=y) (L:=-H) (by grind) (by grind) h3 h4 (by grind) (by grind) (by grind) (by grind)
 grind
theorem nat_above (x:Rat):∃ n:Nat,x≤(n:Rat):=by
 refine ⟨x.ceil.toNat,Rat.le_trans Rat.le_ceil ?_⟩
 have h:x.ceil≤(x.ceil.toNat:Int):=by omega
 have h2:(x.ceil:Rat)≤((x.ceil.toNat:Int):Rat):=by exact_mod_cast h
 exact h2
theorem two_pow_ge (n:Nat):n≤2^n:=Nat.le_of_lt Nat.lt_two_pow_self
theorem half_small (c:Rat) {e:Rat} (he:0 < e):∃ n:Nat,∀ m,n≤m→c≤e*((2^m:Nat):Rat):=by
 obtain ⟨n,hn⟩:=nat_above (c/e)
 refine ⟨n,fun m hm=>?_⟩
 have h1:c/e*e=c:=Rat.div_mul_cancel (by grind)
 have h2:(n:Rat)≤((2^m:Nat):Rat):=by
  have:=Nat.le_trans (two_pow_ge n) (Nat.pow_le_pow_right (by omega) hm)
  exact_mod_cast this
 have h3:=Rat.mul_le_mul_of_nonneg_right (Rat.le_trans hn h2) (Rat.le_of_lt he)
 rw [h1] at h3
 grind
theorem pick {a c d:Rat} (ha:0 < a) (hc:0 < c) (hd:0 < d):∃ f:Rat,0 < f∧f≤a∧f*c≤d:=by
 have h0:0 < d/c:=rat_div_pos hd hc
 have hm:d/c*c=d:=Rat.div_mul_cancel (by grind)
 rcases rat_total a (d/c) with h1 | h1
 · refine ⟨a,ha,Rat.le_refl,?_⟩
   have:=Rat.mul_le_mul_of_nonneg_right h1 (Rat.le_of_lt hc)
   grind
 · exact ⟨d/c,h0,h1,by grind⟩
def Nul (s:Nat→Rat):Prop:=∀ e:Rat,0 < e→∃ N,∀ n,N≤n→-e≤s n∧s n≤e
def Bdd (s:Nat→Rat):Prop:=∃ M:Rat,0 < M∧∀ n,-M≤s n∧s n≤M
theorem Nul.eq {s t:Nat→Rat} (h:Nul s) (e:∀ n,s n=t n):Nul t:=(funext e:s=t) ▸ h
theorem Nul.zero:Nul (fun _=>0):=fun e he=>⟨0,fun _ _=>⟨by grind,by grind⟩⟩
theorem Nul.add {s t:Nat→Rat} (h:Nul s) (k:Nul t):Nul (fun n=>s n+t n):=fun e he=>by
 obtain ⟨N,hN⟩:=h (e/2) (by grind)
 obtain ⟨M,hM⟩:=k (e/2) (by grind)
 refine ⟨N+M,fun n hn=>?_⟩
 have:=hN n (by omega)
 have:=hM n (by omega)
 constructor <;> grind
theorem Nul.neg {s:Nat→Rat} (h:Nul s):Nul (fun n=>- s n):=fun e he=>by
 obtain ⟨N,hN⟩:=h e he
 exact ⟨N,fun n hn=>by have:=hN n hn;constructor <;> grind⟩
theorem Nul.le {s t:Nat→Rat} (h:Nul s) (k:∀ n,- s n≤t n∧t n≤s n):Nul t:=fun e he=>by
 obtain ⟨N,hN⟩:=h e he
 exact ⟨N,fun n hn=>by have:=hN n hn;have:=k n;constructor <;> grind⟩
theorem Bdd.add {s t:Nat→Rat} (h:Bdd s) (k:Bdd t):Bdd (fun n=>s n+t n):=by
 obtain ⟨M,hM,h⟩:=h
 obtain ⟨K,hK,k⟩:=k
 exact ⟨M+K,by grind,fun n=>by have:=h n;have:=k n;constructor <;> grind⟩
theorem Bdd.mul {s t:Nat→Rat} (h:Bdd s) (k:Bdd t):Bdd (fun n=>s n*t n):=by
 obtain ⟨M,hM,h⟩:=h
 obtain ⟨K,hK,k⟩:=k
 exact ⟨M*K,Rat.mul_pos hM hK,fun n=>abs_mul (h n).1 (h n).2 (k n).1 (k n).2⟩
theorem Bdd.const (c:Rat):Bdd (fun _=>c):=⟨1+(if 0≤c then c else -c),by split <;> grind,fun _=>by split <;> constructor <;> grind⟩
def Hl (a b:Rat) (s:Nat→Rat):Prop:=∀ e:Rat,0 < e→∃ N,∀ n,N≤n→a-e≤s n∧s n≤b+e
section
variable {a b c d:Rat} {s t:Nat→Rat}
theorem Hl.of {N:Nat} (h:∀ n,N≤n→a≤s n∧s n≤b):Hl a b s:=fun e he=>⟨N,fun n hn=>by have:=h n hn;constructor <;> grind⟩
theorem Hl.point (c:Rat):Hl c c (fun _=>c):=Hl.of (N:=0) fun _ _=>⟨Rat.le_refl,Rat.le_refl⟩
theorem Hl.mono (h:Hl a b s) (h1:c≤a) (h2:b≤d):Hl c d s:=fun e he=>by
 obtain ⟨N,hN⟩:=h e he
 exact ⟨N,fun n hn=>by have:=hN n hn;constructor <;> grind⟩
theorem Hl.congr (h:Hl a b s) (k:Nul (fun n=>s n-t n)):Hl a b t:=fun e he=>by
 obtain ⟨N,hN⟩:=h (e/2) (by grind)
 obtain ⟨M,hM⟩:=k (e/2) (by grind)
 refine ⟨N+M,fun n hn=>?_⟩
 have:=hN n (by omega)
 have:=hM n (by omega)
 constructor <;> grind
theorem Hl.add (h:Hl a b s) (k:Hl c d t):Hl (a+c) (b+d) (fun n=>s n+t n):=fun e he=>by
 obtain ⟨N,hN⟩:=h (e/2) (by grind)
 obtain ⟨M,hM⟩:=k (e/2) (by grind)
 refine ⟨N+M,fun n hn=>?_⟩
 have:=hN n (by omega)
 have:=hM n (by omega)
 constructor <;> grind
theorem Hl.neg (h:Hl a b s):Hl (-b) (-a) (fun n=>- s n):=fun e he=>by
 obtain ⟨N,hN⟩:=h e he
 exact ⟨N,fun n hn=>by have:=hN n hn;constructor <;> grind⟩
theorem Hl.sub (h:Hl a b s) (k:Hl c d t):Hl (a-d) (b-c) (fun n=>s n-t n):=by
 have:=h.add k.neg
 simp only [Rat.sub_eq_add_neg]
 exact this
theorem Hl.meet (h:Hl a b s) (k:Hl c d t) (z:Nul (fun n=>s n-t n)):a≤d:=by
 by_cases h1:a≤d
 · exact h1
 · exfalso
   have he:0 < (a-d)/4:=by have:=Rat.not_le.1 h1;grind
   obtain ⟨N,hN⟩:=(h.congr z) _ he
   obtain ⟨M,hM⟩:=k _ he
   have:=hN (N+M) (by omega)
   have:=hM (N+M) (by omega)
   grind
theorem Hl.le (h:Hl a b s):a≤b:=h.meet h (Nul.zero.eq (fun n=>by grind))
theorem Hl.mul {L H:Rat} (h:Hl a b s) (k:Hl c d t) (l1:L≤a*c) (l2:L≤a*d) (l3:L≤b*c) (l4:L≤b*d)
 (u1:a*c≤H) (u2:a*d≤H) (u3:b*c≤H) (u4:b*d≤H):Hl L H (fun n=>s n*t n):=fun e he=>by
 have hab:=h.le
 have hcd:=k.le
 obtain ⟨A,hA0,hA1,hA2⟩:∃ A:Rat,0 < A∧-A≤a∧b≤A:=⟨1+(if 0≤a then a else -a)+(if 0≤b then b else -b),by split <;> split <;> grind,by split <;> split <;> grind,by split <;> split <;> grind⟩
 obtain ⟨C,hC0,hC1,hC2⟩:∃ C:Rat,0 < C∧-C≤c∧d≤C:=⟨1+(if 0≤c then c else -c)+(if 0≤d then d else -d),by split <;> split <;> grind,by split <;> split <;> grind,by split <;> split <;> grind⟩
 obtain ⟨f,hf0,hf1,hf2⟩:=pick (a:=1) (c:=A+C+1) (d:=e) (by grind) (by grind) he
 obtain ⟨N,hN⟩:=h f hf0
 obtain ⟨M,hM⟩:=k f hf0
 refine ⟨N+M,fun n hn=>?_⟩
 have hs:=hN n (by omega)
 have ht:=hM n (by omega)
 show L-e≤s n*t n∧s n*t n≤H+e
 generalize s n=x at *
 generalize t n=y at *
 obtain ⟨x',p1,p2,p3,p4⟩:∃ x',a≤x'∧x'≤b∧-f≤x-x'∧x-x'≤f:=by
  rcases rat_total x a with q | q
  · exact ⟨a,Rat.le_refl,hab,by grind,by grind⟩
  · rcases rat_total b x with r | r
    · exact ⟨b,hab,Rat.le_refl,by grind,by grind⟩
    · exact ⟨x,q,r,by grind,by grind⟩
 obtain ⟨y',q1,q2,q3,q4⟩:∃ y',c≤y'∧y'≤d∧-f≤y-y'∧y-y'≤f:=by
  rcases rat_total y c with q | q
  · exact ⟨c,Rat.le_refl,hcd,by grind,by grind⟩
  · rcases rat_total d y with r | r
    · exact ⟨d,hcd,Rat.le_refl,by grind,by grind⟩
    · exact ⟨y,q,r,by grind,by grind⟩
 have c1:=corner_le p1 p2 q1 q2 l1 l2 l3 l4
 have c2:=corner_ge p1 p2 q1 q2 u1 u2 u3 u4
 have m1:=abs_mul (a:=A) (b:=f) (x:=x') (y:=y-y') (by grind) (by grind) q3 q4
 have m2:=abs_mul (a:=f) (b:=C+1) (x:=x-x') (y:=y) p3 p4 (by grind) (by grind)
 have e1:x*y=x'*y'+x'*(y-y')+(x-x')*y:=by grind
 constructor <;> grind
theorem Hl.inv {L H:Rat} (h:Hl a b s) (ha:0 < a) (hst:Nul (fun n=>s n*t n-1)) (hL:L*b≤1) (hH:1≤H*a):Hl L H t:=fun e he=>by
 have hab:=h.le
 have hH0:0 < H:=by
  refine Rat.not_le.1 fun h1=>?_
  have:=Rat.mul_le_mul_of_nonneg_right h1 (Rat.le_of_lt ha)
  grind
 obtain ⟨K,hK0,hK⟩:∃ K:Rat,0 < K∧L≤K:=⟨1+(if 0≤L then L else -L),by split <;> grind,by split <;> grind⟩
 obtain ⟨f,hf0,hf1,hf3,hf2⟩:∃ f:Rat,0 < f∧f≤a/2∧f≤1/2∧f*(2+H+e+K)≤a*e/2:=by
  have hae:0 < a*e/2:=by have:=Rat.mul_pos ha he;grind
  obtain ⟨f,g0,g1,g2⟩:=pick (a:=a/2) (c:=2+H+e+K) (d:=a*e/2) (by grind) (by grind) hae
  rcases rat_total f (1/2) with h1 | h1
  · exact ⟨f,g0,g1,h1,g2⟩
  · refine ⟨1/2,by grind,by grind,Rat.le_refl,?_⟩
    have:=Rat.mul_le_mul_of_nonneg_right h1 (show 0≤2+H+e+K by grind)
    grind
 obtain ⟨N,hN⟩:=h f hf0
 obtain ⟨M,hM⟩:=hst f hf0
 refine ⟨N+M,fun n hn=>?_⟩
 have hs:=hN n (by omega)
 have ht:=hM n (by omega)
 dsimp only at ht
 generalize s n=x at *
 generalize t n=y at *
 have hx:0 < x:=by grind
 constructor
 · rcases rat_total (L-e) y with h1 | h1
   · exact h1
   · exfalso
     have h2:=Rat.mul_le_mul_of_nonneg_left h1 (Rat.le_of_lt hx)
     rcases rat_total (L-e) 0 with h3 | h3
     · have h4:0≤x*-(L-e):=Rat.mul_nonneg (Rat.le_of_lt hx) (by grind)
       grind
     · have h4:=Rat.mul_le_mul_of_nonneg_right hs.2 h3
       have h5:=Rat.mul_le_mul_of_nonneg_left hK (Rat.le_of_lt hf0)
       have h6:=Rat.mul_le_mul_of_nonneg_right hab (Rat.le_of_lt he)
       have h7:f*(1+K)≤f*(2+H+e+K):=Rat.mul_le_mul_of_nonneg_left (by grind) (Rat.le_of_lt hf0)
       have h8:0≤f*e:=Rat.mul_nonneg (Rat.le_of_lt hf0) (Rat.le_of_lt he)
       have h9:=Rat.mul_pos ha he
       grind
 · rcases rat_total y (H+e) with h1 | h1
   · exact h1
   · have h2:=Rat.mul_le_mul_of_nonneg_left h1 (Rat.le_of_lt hx)
     have h3:(a-f)*(H+e)≤x*(H+e):=Rat.mul_le_mul_of_nonneg_right hs.1 (by grind)
     have h7:f*(1+H+e)≤f*(2+H+e+K):=Rat.mul_le_mul_of_nonneg_left (by grind) (Rat.le_of_lt hf0)
     have h9:=Rat.mul_pos ha he
     exfalso
     grind
end
end Go.Proofs.YtmbmohibpkepdaaGreatDoor
namespace Go.Proofs.YtmbmohibpkepdaaGreatDoor
theorem le_cancel {c x y:Rat} (hc:0 < c) (h:c*x≤c*y):x≤y:=Rat.le_of_mul_le_mul_left h hc
theorem tm_abs {x a:Rat} (h1:-a≤x) (h2:x≤a) (n:Nat):-(tmQ a n)≤tmQ x n∧tmQ x n≤tmQ a n:=by
 induction n with
 | zero=>exact ⟨by show -(1:Rat)≤1;grind,Rat.le_refl⟩
 | succ n ih =>
  have e1:=tmQ_succ x n
  have e2:=tmQ_succ a n
  have hp:=natq_pos n
  have h3:=abs_mul h1 h2 ih.1 ih.2
  constructor
  · refine le_cancel hp ?_
    grind
  · refine le_cancel hp ?_
    grind
theorem sum_far {f g:Nat→Rat} (h:∀ i,-(g i)≤f i∧f i≤g i) (k:Nat):∀ d,-(sumQ g (k+d)-sumQ g k)≤sumQ f (k+d)-sumQ f k∧sumQ f (k+d)-sumQ f k≤sumQ g (k+d)-sumQ g k
 | 0=>by constructor <;> grind
 | d+1=>by
  have:=sum_far h k d
  have:=h (k+d+1)
  rw [show k+(d+1)=k+d+1 by omega,sumQ_succ,sumQ_succ]
  constructor <;> grind
theorem sum_abs {f g:Nat→Rat} {n:Nat} (h:∀ i,i≤n→-(g i)≤f i∧f i≤g i):-(sumQ g n)≤sumQ f n∧sumQ f n≤sumQ g n:=by
 induction n with
 | zero=>exact h 0 (Nat.le_refl _)
 | succ n ih =>
  have:=ih (fun i hi=>h i (by omega))
  have:=h (n+1) (Nat.le_refl _)
  rw [sumQ_succ,sumQ_succ]
  constructor <;> grind
theorem ex_by (x y:Rat) (n:Nat):exQ x n*exQ y n-exQ (x+y) n=sumQ (fun i=>tmQ x i*(sumQ (tmQ y) n-sumQ (tmQ y) (n-i))) n:=by
 have h:exQ x n*exQ y n=sumQ (fun i=>tmQ x i*exQ y n) n:=by
  have e:(fun i=>tmQ x i*exQ y n)=fun i=>exQ y n*tmQ x i:=by funext i;exact Rat.mul_comm _ _
  rw [e,sumQ_mul]
  exact Rat.mul_comm _ _
 have h2:sumQ (fun i=>tmQ x i*(sumQ (tmQ y) n-sumQ (tmQ y) (n-i))) n+sumQ (fun i=>tmQ x i*sumQ (tmQ y) (n-i)) n=sumQ (fun i=>tmQ x i*exQ y n) n:=by
  rw [← sumQ_add]
  refine sumQ_congr fun i _=>?_
  show _=tmQ x i*sumQ (tmQ y) n
  grind
 rw [h,ex_rows]
 grind
theorem ex_near {x y a b:Rat} (h1:-a≤x) (h2:x≤a) (h3:-b≤y) (h4:y≤b) (n:Nat) :
 -(exQ a n*exQ b n-exQ (a+b) n)≤exQ x n*exQ y n-exQ (x+y) n∧exQ x n*exQ y n-exQ (x+y) n≤exQ a n*exQ b n-exQ (a+b) n:=by
 rw [ex_by,ex_by]
 refine sum_abs fun i hi=>?_
 have k1:=tm_abs h1 h2 i
 have k2:=sum_far (fun j=>tm_abs h3 h4 j) (n-i) i
 rw [show n-i+i=n by omega] at k2
 exact abs_mul k1.1 k1.2 k2.1 k2.2
theorem tm_fast {a:Rat} (ha:0≤a) {K:Nat} (hK:2*a≤(K:Rat)) (m:Nat):2*tmQ a (K+m+1)≤tmQ a (K+m):=by
 have h1:=tmQ_succ a (K+m)
 have h3:=tmQ_nonneg ha (K+m)
 have hp:=natq_pos (K+m)
 have e:((K+m:Nat):Rat)=(K:Rat)+(m:Rat):=by push_cast;rfl
 have hm:(0:Rat)≤(m:Rat):=by exact_mod_cast Nat.zero_le m
 have h4:2*(a*tmQ a (K+m))≤(((K+m:Nat):Rat)+1)*tmQ a (K+m):=by
  have:=Rat.mul_le_mul_of_nonneg_right (show 2*a≤((K+m:Nat):Rat)+1 by grind) h3
  grind
 refine le_cancel hp ?_
 grind
theorem tm_end {a:Rat} (ha:0≤a) {K:Nat} (hK:2*a≤(K:Rat)) (m:Nat):tmQ a (K+m)*((2^m:Nat):Rat)≤tmQ a K:=by
 induction m with
 | zero =>
  have:((2^0:Nat):Rat)=1:=rfl
  rw [this,Rat.mul_one]
  exact Rat.le_refl
 | succ m ih =>
  have h1:=tm_fast ha hK m
  have e:((2^(m+1):Nat):Rat)=2*((2^m:Nat):Rat):=by rw [Nat.pow_succ,Nat.mul_comm];exact Rat.natCast_mul 2 _
  have hp:(0:Rat)≤((2^m:Nat):Rat):=by exact_mod_cast Nat.zero_le _
  have:=Rat.mul_le_mul_of_nonneg_right h1 hp
  rw [e,show K+(m+1)=K+m+1 by omega]
  grind
theorem ex_tail2 {a:Rat} (ha:0≤a) {K:Nat} (hK:2*a≤(K:Rat)) (m:Nat):∀ d,exQ a (K+m+d)+tmQ a (K+m+d)≤exQ a (K+m)+tmQ a (K+m)
 | 0=>Rat.le_refl
 | d+1=>by
  have:=ex_tail2 ha hK m d
  have h1:=tm_fast ha hK (m+d)
  have e:exQ a (K+m+(d+1))=exQ a (K+m+d)+tmQ a (K+m+d+1):=rfl
  rw [e,show K+m+(d+1)=K+m+d+1 by omega]
  rw [show K+(m+d)=K+m+d by omega] at h1
  grind
theorem tm_nul {a:Rat} (ha:0≤a):Nul (tmQ a):=fun e he=>by
 obtain ⟨K,hK⟩:=nat_above (2*a)
 obtain ⟨n,hn⟩:=half_small (tmQ a K) he
 refine ⟨K+n,fun m hm=>?_⟩
 have h1:=tmQ_nonneg ha m
 have h2:=tm_end ha hK (m-K)
 have h3:=hn (m-K) (by omega)
 rw [show K+(m-K)=m by omega] at h2
 have hp:(0:Rat) < ((2^(m-K):Nat):Rat):=by exact_mod_cast Nat.two_pow_pos _
 refine ⟨by grind,?_⟩
 refine le_cancel hp ?_
 grind
theorem ex_far {a:Rat} (ha:0≤a):Nul (fun n=>exQ a (2*n)-exQ a n):=fun e he=>by
 obtain ⟨K,hK⟩:=nat_above (2*a)
 obtain ⟨N,hN⟩:=tm_nul ha e he
 refine ⟨K+N,fun n hn=>?_⟩
 have h1:=ex_tail2 ha hK (n-K) n
 have h2:=exQ_mono ha (show n≤2*n by omega)
 have h3:=hN n (by omega)
 have h4:=tmQ_nonneg ha (2*n)
 rw [show K+(n-K)=n by omega,show n+n=2*n by omega] at h1
 constructor <;> grind
theorem abs_is (x:Rat):∃ a:Rat,0≤a∧-a≤x∧x≤a:=by
 rcases rat_total 0 x with h | h
 · exact ⟨x,h,by grind,Rat.le_refl⟩
 · exact ⟨-x,by grind,by grind,by grind⟩
theorem ex_add (x y:Rat):Nul (fun n=>exQ x n*exQ y n-exQ (x+y) n):=by
 obtain ⟨a,a0,a1,a2⟩:=abs_is x
 obtain ⟨b,b0,b1,b2⟩:=abs_is y
 have h0:=ex_far (show 0≤a+b by grind)
 refine h0.le fun n=>?_
 have h1:=ex_near a1 a2 b1 b2 n
 have h2:=ex_mul_le a0 b0 n
 constructor <;> grind
theorem ex_bdd (x:Rat):Bdd (exQ x):=by
 obtain ⟨a,a0,a1,a2⟩:=abs_is x
 obtain ⟨K,hK⟩:=nat_above (2*a)
 have h0:=exQ_one a0 K
 have h1:=tmQ_nonneg a0 K
 refine ⟨exQ a K+tmQ a K,by grind,fun n=>?_⟩
 have h2:=sum_abs (n:=n) (fun i _=>tm_abs a1 a2 i)
 have h3:exQ a n≤exQ a K+tmQ a K:=by
  rcases Nat.lt_or_ge n K with h | h
  · have:=exQ_mono a0 (Nat.le_of_lt h)
    grind
  · have h4:=ex_tail2 a0 hK 0 (n-K)
    have h5:=tmQ_nonneg a0 n
    rw [show K+0+(n-K)=n by omega,Nat.add_zero] at h4
    grind
 have e1:exQ a n=sumQ (tmQ a) n:=rfl
 have e2:exQ x n=sumQ (tmQ x) n:=rfl
 constructor <;> grind
theorem ex_zero (n:Nat):exQ 0 n=1:=by
 have h:∀ k,tmQ 0 (k+1)=0:=fun k=>by
  show tmQ 0 k*0/((k:Rat)+1)=0
  rw [Rat.mul_zero,Rat.div_def,Rat.zero_mul]
 induction n with
 | zero=>rfl
 | succ n ih =>
  show exQ 0 n+tmQ 0 (n+1)=1
  rw [h,ih,Rat.add_zero]
theorem ex_inv (x:Rat):Nul (fun n=>exQ x n*exQ (-x) n-1):=by
 have:=ex_add x (-x)
 rw [show x+-x=0 by grind] at this
 exact this.eq fun n=>by rw [ex_zero]
def Lq (s t:Nat→Rat):Prop:=∀ e:Rat,0 < e→∃ N,∀ n,N≤n→s n≤t n+e
section
variable {s t u v:Nat→Rat} {a b c d:Rat}
theorem Lq.of (h:∀ n,s n≤t n):Lq s t:=fun e he=>⟨0,fun n _=>by have:=h n;grind⟩
theorem Lq.trans (h:Lq s t) (k:Lq t u):Lq s u:=fun e he=>by
 obtain ⟨N,hN⟩:=h (e/2) (by grind)
 obtain ⟨M,hM⟩:=k (e/2) (by grind)
 refine ⟨N+M,fun n hn=>?_⟩
 have:=hN n (by omega)
 have:=hM n (by omega)
 grind
theorem Lq.nul (h:Nul (fun n=>s n-t n)):Lq s t:=fun e he=>by
 obtain ⟨N,hN⟩:=h e he
 exact ⟨N,fun n hn=>by have:=hN n hn;grind⟩
theorem Lq.add (h:Lq s t) (k:Lq u v):Lq (fun n=>s n+u n) (fun n=>t n+v n):=fun e he=>by
 obtain ⟨N,hN⟩:=h (e/2) (by grind)
 obtain ⟨M,hM⟩:=k (e/2) (by grind)
 refine ⟨N+M,fun n hn=>?_⟩
 have:=hN n (by omega)
 have:=hM n (by omega)
 grind
theorem Lq.neg (h:Lq s t):Lq (fun n=>- t n) (fun n=>- s n):=fun e he=>by
 obtain ⟨N,hN⟩:=h e he
 exact ⟨N,fun n hn=>by have:=hN n hn;grind⟩
theorem Lq.sub (h:Lq s t):Lq (fun _=>0) (fun n=>t n-s n):=fun e he=>by
 obtain ⟨N,hN⟩:=h e he
 exact ⟨N,fun n hn=>by have:=hN n hn;grind⟩
theorem Lq.of_sub (h:Lq (fun _=>0) (fun n=>t n-s n)):Lq s t:=fun e he=>by
 obtain ⟨N,hN⟩:=h e he
 exact ⟨N,fun n hn=>by have:=hN n hn;grind⟩
theorem Lq.mul (h:Lq (fun _=>0) s) (k:Lq (fun _=>0) t) (hs:Bdd s) (ht:Bdd t):Lq (fun _=>0) (fun n=>s n*t n):=fun e he=>by
 obtain ⟨M,hM0,hM⟩:=hs
 obtain ⟨K,hK0,hK⟩:=ht
 obtain ⟨f,f0,_,f2⟩:=pick (a:=1) (c:=M+K) (d:=e) (by grind) (by grind) he
 obtain ⟨N,hN⟩:=h f f0
 obtain ⟨N',hN'⟩:=k f f0
 refine ⟨N+N',fun n hn=>?_⟩
 have h1:=hN n (by omega)
 have h2:=hN' n (by omega)
 have h3:=hM n
 have h4:=hK n
 show 0≤s n*t n+e
 dsimp only at h1 h2
 generalize s n=x at *
 generalize t n=y at *
 have h5:0≤(x+f)*(y+f):=Rat.mul_nonneg (by grind) (by grind)
 rcases rat_total 0 x with hx | hx
 · have h6:0≤x*(y+f):=Rat.mul_nonneg hx (by grind)
   have h7:f*x≤f*M:=Rat.mul_le_mul_of_nonneg_left h3.2 (Rat.le_of_lt f0)
   have h8:0≤f*K:=Rat.mul_nonneg (Rat.le_of_lt f0) (Rat.le_of_lt hK0)
   grind
 · rcases rat_total 0 y with hy | hy
   · have h6:0≤(x+f)*y:=Rat.mul_nonneg (by grind) hy
     have h7:f*y≤f*K:=Rat.mul_le_mul_of_nonneg_left h4.2 (Rat.le_of_lt f0)
     have h8:0≤f*M:=Rat.mul_nonneg (Rat.le_of_lt f0) (Rat.le_of_lt hM0)
     grind
   · have h6:0≤(-x)*(-y):=Rat.mul_nonneg (by grind) (by grind)
     grind
theorem Hl.between (h:Hl a b s) (k:Hl c d t) (h1:Lq s u) (h2:Lq u t):Hl a d u:=fun e he=>by
 obtain ⟨N,hN⟩:=h (e/2) (by grind)
 obtain ⟨M,hM⟩:=k (e/2) (by grind)
 obtain ⟨N',hN'⟩:=h1 (e/2) (by grind)
 obtain ⟨M',hM'⟩:=h2 (e/2) (by grind)
 refine ⟨N+M+N'+M',fun n hn=>?_⟩
 have:=hN n (by omega)
 have:=hM n (by omega)
 have:=hN' n (by omega)
 have:=hM' n (by omega)
 constructor <;> grind
end
theorem ex_pos (x:Rat):Lq (fun _=>0) (exQ x):=by
 have h:=ex_add (x/2) (x/2)
 rw [show x/2+x/2=x by grind] at h
 refine Lq.trans (Lq.of fun n=>?_) (Lq.nul h)
 show 0≤exQ (x/2) n*exQ (x/2) n
 rcases rat_total 0 (exQ (x/2) n) with h1 | h1
 · exact Rat.mul_nonneg h1 h1
 · have:0≤(- exQ (x/2) n)*(- exQ (x/2) n):=Rat.mul_nonneg (by grind) (by grind)
   grind
theorem ex_rise {x y:Rat} (h:x≤y):Lq (exQ x) (exQ y):=by
 have h1:Lq (fun _=>0) (fun n=>exQ x n*(exQ (y-x) n-1)) :=
  (ex_pos x).mul (Lq.of fun n=>by have:=exQ_one (show 0≤y-x by grind) n;grind) (ex_bdd x) ((ex_bdd (y-x)).add (Bdd.const (-1)) |> fun k=>by simpa only [Rat.sub_eq_add_neg] using k)
 have h2:=ex_add x (y-x)
 rw [show x+(y-x)=y by grind] at h2
 refine Lq.of_sub (Lq.trans h1 (Lq.nul (h2.eq fun n=>?_)))
 grind
def shQ (x:Rat) (n:Nat):Rat:=(exQ x n-exQ (-x) n)/2
def chQ (x:Rat) (n:Nat):Rat:=(exQ x n+exQ (-x) n)/2
theorem ch_even (x:Rat) (n:Nat):chQ (-x) n=chQ x n:=by
 unfold chQ
 rw [show - -x=x by grind]
 grind
theorem sh_odd (x:Rat) (n:Nat):shQ (-x) n=- shQ x n:=by
 unfold shQ
 rw [show - -x=x by grind]
 grind
theorem ch_rise {x y:Rat} (h0:0≤x) (h:x≤y):Lq (chQ x) (chQ y):=by
 have b1:Bdd (fun n=>exQ y n-exQ x n):=by
  have k:=(ex_bdd y).add ((ex_bdd x).mul (Bdd.const (-1)))
  have e:(fun n=>exQ y n+exQ x n*-1)=fun n=>exQ y n-exQ x n:=by funext n;grind
  rw [e] at k;exact k
 have b2:Bdd (fun n=>1-exQ (-(x+y)) n):=by
  have k:=(Bdd.const 1).add ((ex_bdd (-(x+y))).mul (Bdd.const (-1)))
  have e:(fun n=>(1:Rat)+exQ (-(x+y)) n*-1)=fun n=>1-exQ (-(x+y)) n:=by funext n;grind
  rw [e] at k;exact k
 have l2:Lq (exQ (-(x+y))) (fun _=>1):=by
  have k:=ex_rise (show -(x+y)≤0 by grind)
  have e:exQ 0=fun _=>1:=by funext n;exact ex_zero n
  rw [e] at k;exact k
 have h1:=(ex_rise h).sub.mul l2.sub b1 b2
 have n1:=ex_add y (-(x+y))
 have n2:=ex_add x (-(x+y))
 rw [show y+-(x+y)=-x by grind] at n1
 rw [show x+-(x+y)=-y by grind] at n2
 have n3:Nul (fun n=>(exQ y n-exQ x n)*(1-exQ (-(x+y)) n)-(chQ y n-chQ x n)*2) :=
  (n1.neg.add n2).eq fun n=>by unfold chQ;grind
 have h2:=h1.trans (Lq.nul n3)
 refine Lq.of_sub fun e he=>?_
 obtain ⟨N,hN⟩:=h2 e he
 exact ⟨N,fun n hn=>by have:=hN n hn;grind⟩
theorem ch_zero (n:Nat):chQ 0 n=1:=by
 unfold chQ
 rw [show -(0:Rat)=0 by grind,ex_zero]
 grind
theorem ch_sh (x:Rat):Nul (fun n=>chQ x n*chQ x n-shQ x n*shQ x n-1) :=
 (ex_inv x).eq fun n=>by unfold chQ shQ;grind
end Go.Proofs.YtmbmohibpkepdaaGreatDoor
namespace Go.Proofs.YtmbmohibpkepdaaGreatDoor
theorem nbm7 {V U:Nat} (h:V≤U):nb V≤nb U:=(nb_le_iff _ _).2 (Nat.lt_of_le_of_lt h (nb_lt U))
theorem power_mid {z:Rat} {Z B h P j:Nat} (hz:Zb z Z B) (hB:B=P+64+h) (hBl:B≤200000) (hj:j≤h) :
 ∃ a,Ex (((2^j:Nat):Rat)*z) (pwN Z B j).1 (pwN Z B j).2 a∧a≤tw (-((P+44:Nat):Int))∧B≤nb (pwN Z B j).1∧nb (pwN Z B j).1≤B+21:=by
 have hB1:1≤B:=by omega
 have hn:ftN (fun n=>n) Z B (B+1)=0:=ft_nought hz.two (Nat.lt_succ_self B)
 have hbig:=fs_big (fun n=>n) Z B (B+1)
 have hnb:B≤nb (fsN (fun n=>n) Z B (B+1)):=by
  rcases Nat.lt_or_ge (nb (fsN (fun n=>n) Z B (B+1))) B with h1 | h1
  · have h2:=(nb_le_iff (fsN (fun n=>n) Z B (B+1)) (B-1)).1 (by omega)
    have h3:2^(B-1)≤2^B:=Nat.pow_le_pow_right (by omega) (by omega)
    omega
  · exact h1
 have hL:4*(((B+1:Nat):Rat)+2)+2≤((2^20:Nat):Rat):=by
  have h1:4*(B+3)+2≤2^20:=by omega
  have h2:=natq_le h1
  have e:((4*(B+3)+2:Nat):Rat)=4*(((B+1:Nat):Rat)+2)+2:=by push_cast;grind
  rw [e] at h2
  exact h2
 have hs:=tw_pos (-(B:Int))
 have hss:tw (-((B-1:Nat):Int))=2*tw (-(B:Int)):=by
  have h1:-((B-1:Nat):Int)=((1:Nat):Int)+-(B:Int):=by omega
  rw [h1,tw_add,tw_nat]
  rfl
 have hn0:=natq_nonneg (B+1)
 have ha:4*(((B+1:Nat):Rat)+2)*tw (-(B:Int))≤tw (20-(B:Int)):=by
  have e:tw (20-(B:Int))=((2^20:Nat):Rat)*tw (-(B:Int)):=by
   rw [tw_natmul];congr 1
  rw [e]
  refine Rat.mul_le_mul_of_nonneg_right ?_ (Rat.le_of_lt hs)
  grind
 have hone:tw (20-(B:Int))≤1:=by
  have:=tw_mono (show 20-(B:Int)≤0 by omega)
  rw [tw_zero] at this
  exact this
 have S:=Ex.start hz hn (Rat.le_trans ha hone)
 have hA:aQ (4*(((B+1:Nat):Rat)+2)*tw (-(B:Int))) (tw (-((B-1:Nat):Int))) h≤tw (-((P+44:Nat):Int)):=by
  rw [aQ_eq,hss]
  have e:tw (-((P+44:Nat):Int))=((2^h:Nat):Rat)*(((2^20:Nat):Rat)*tw (-(B:Int))):=by
   rw [tw_natmul,tw_natmul]
   congr 1 <;> omega
  rw [e]
  have h1:4*(((B+1:Nat):Rat)+2)*tw (-(B:Int))+2*tw (-(B:Int))≤((2^20:Nat):Rat)*tw (-(B:Int)):=by
   have:=Rat.mul_le_mul_of_nonneg_right hL (Rat.le_of_lt hs)
   grind
  have h2:=Rat.mul_le_mul_of_nonneg_left h1 (natq_nonneg (2^h))
  grind
 have hA1:tw (-((P+44:Nat):Int))≤1:=by
  have h1:=tw_mono (show -((P+44:Nat):Int)≤0 by omega)
  rw [tw_zero] at h1
  exact h1
 have hAj:=Rat.le_trans (aQ_mono (k:=j) (l:=h) S.a0 (Rat.le_of_lt (tw_pos (-((B-1:Nat):Int)))) hj).1 hA
 refine ⟨_,S.pow (p:=(fsN (fun n=>n) Z B (B+1),-(B:Int))) hB1 hnb j (Rat.le_trans hAj hA1),hAj,pow_bits (p:=(fsN (fun n=>n) Z B (B+1),-(B:Int))) hB1 hnb j,?_⟩
 cases j with
 | zero =>
  have h1:fsN (fun n=>n) Z B (B+1)≤2^(20+B):=by
   have hfs:∀ k,fsN (fun n=>n) Z B k≤(k+1)*2^B:=fun k=>by
    have hft:∀ i,ftN (fun n=>n) Z B i≤2^B:=fun i=>by
     have h1:=ft_end (D:=fun n=>n) hz.two i
     have h2:ftN (fun n=>n) Z B i*1≤ftN (fun n=>n) Z B i*2^i:=Nat.mul_le_mul_left _ (Nat.two_pow_pos i)
     omega
    induction k with
    | zero=>have:=hft 0;show ftN (fun n=>n) Z B 0≤_;omega
    | succ k ih =>
     have h1:=hft (k+1)
     show fsN (fun n=>n) Z B k+ftN (fun n=>n) Z B (k+1)≤(k+1+1)*2^B
     rw [Nat.add_mul (k+1) 1]
     omega
   rw [Nat.pow_add]
   exact Nat.le_trans (hfs _) (Nat.mul_le_mul_right _ (by omega))
  have h2:=nbm7 h1
  rw [show nb (2^(20+B))=20+B+1 from nb_of (Nat.pow_lt_pow_right (by omega) (Nat.lt_succ_self _)) (Nat.le_refl _)] at h2
  show nb (fsN (fun n=>n) Z B (B+1))≤B+21
  omega
 | succ j =>
  have:=sq_bits hB1 (pow_bits (p:=(fsN (fun n=>n) Z B (B+1),-(B:Int))) hB1 hnb j)
  have e:nb (sqP B ((powP B (fsN (fun n=>n) Z B (B+1),-(B:Int)) j).1,0)).1≤B+21:=by omega
  exact e
theorem tw_lt {a b:Int} (h:tw a < tw b):a < b:=by
 rcases Int.lt_or_le a b with h1 | h1
 · exact h1
 · have:=tw_mono h1
   exact absurd h (Rat.not_lt.2 this)
theorem tw_le {a b:Int} (h:tw a≤tw b):a≤b:=by
 rcases Int.lt_or_le b a with h1 | h1
 · have h2:=tw_mono (show b+1≤a by omega)
   have h3:tw (b+1)=tw b*2:=by rw [tw_add];rfl
   have:=tw_pos b
   grind
 · exact h1
theorem power_range {z:Rat} {Z B h P j:Nat} (hz:Zb z Z B) (hB:B=P+64+h) (hBl:B≤200000) (hj:j≤h) (hx:((2^h:Nat):Rat)*z≤65536) :
 B≤nb (pwN Z B j).1∧nb (pwN Z B j).1≤B+21∧-1-(nb (pwN Z B j).1:Int)≤(pwN Z B j).2∧(pwN Z B j).2+(nb (pwN Z B j).1:Int)≤131073:=by
 obtain ⟨a,E,ha,n1,n2⟩:=power_mid hz hB hBl hj
 refine ⟨n1,n2,?_,?_⟩
 ·
  have h1:=E.hi 0
  have e0:exQ (((2^j:Nat):Rat)*z) 0=1:=rfl
  rw [e0,Rat.one_mul] at h1
  have h2:=tw_mono (show -((P+44:Nat):Int)≤-1 by omega)
  have h3:2*tw (-1)=1:=tw_inv 1 |> fun h=>by
   have e:((2^1:Nat):Rat)=2:=rfl
   rw [e] at h
   have e2:tw (-((1:Nat):Int))=tw (-1):=rfl
   rw [e2] at h
   grind
  have h4:=Rat.mul_le_mul_of_nonneg_right (natq_le (Nat.le_of_lt (nb_lt (pwN Z B j).1))) (Rat.le_of_lt (tw_pos (pwN Z B j).2))
  rw [tw_natmul] at h4
  have h5:tw (-1)≤tw ((nb (pwN Z B j).1:Int)+(pwN Z B j).2):=by grind
  have:=tw_le h5
  omega
 · obtain ⟨n,hn⟩:=E.lo
   have hjh:(2^j:Nat)≤2^h:=Nat.pow_le_pow_right (by omega) hj
   have hy:((2^j:Nat):Rat)*z≤65536:=Rat.le_trans (Rat.mul_le_mul_of_nonneg_right (natq_le hjh) hz.z0) hx
   have hg:=ex_great (z:=((2^j:Nat):Rat)*z/131072) (by have:=E.y0;grind) (by grind) 17 n
   have e:((2^17:Nat):Rat)*(((2^j:Nat):Rat)*z/131072)=((2^j:Nat):Rat)*z:=by
    have:((2^17:Nat):Rat)=131072:=rfl
    rw [this];grind
   rw [e] at hg
   have h0:0 < (pwN Z B j).1:=by
    rcases Nat.eq_zero_or_pos (pwN Z B j).1 with h1 | h1
    · rw [h1,nb_zero] at n1;omega
    · exact h1
   have h4:=Rat.mul_le_mul_of_nonneg_right (natq_le (nb_ge h0)) (Rat.le_of_lt (tw_pos (pwN Z B j).2))
   rw [tw_natmul] at h4
   have h5:tw (((nb (pwN Z B j).1-1:Nat):Int)+(pwN Z B j).2)≤tw ((2^17:Nat):Int):=by grind
   have:=tw_le h5
   have e17:((2^17:Nat):Int)=131072:=rfl
   omega
def dSq (odd:Nat) (n:Nat):Nat:=(2*n+odd)*(2*n+odd-1)
theorem dv_sq {odd:Nat}:Dv (dSq odd):=by
 have h:∀ n,1≤n→2≤dSq odd n:=fun n hn=>by
  unfold dSq
  have:2*1≤(2*n+odd)*(2*n+odd-1):=Nat.mul_le_mul (by omega) (by omega)
  omega
 exact ⟨by have:=h 1 (Nat.le_refl _);omega,fun n hn=>h n (by omega)⟩
theorem tm_neg (x:Rat):∀ n,tmQ (-x) (2*n)=tmQ x (2*n)∧tmQ (-x) (2*n+1)=- tmQ x (2*n+1)
 | 0=>by
  refine ⟨rfl,?_⟩
  show 1*-x/(((0:Nat):Rat)+1)=-(1*x/(((0:Nat):Rat)+1))
  rw [Rat.div_def,Rat.div_def]
  grind
 | n+1=>by
  have ih:=tm_neg x n
  have step:∀ k (c:Rat),tmQ (-x) k=c*tmQ x k→tmQ (-x) (k+1)=-c*tmQ x (k+1):=fun k c h=>by
   show tmQ (-x) k*-x/((k:Rat)+1)=-c*(tmQ x k*x/((k:Rat)+1))
   rw [h,Rat.div_def,Rat.div_def]
   grind
  have s1:=step (2*n+1) (-1) (by rw [ih.2];grind)
  have s2:=step (2*n+2) 1 (by rw [show 2*n+2=2*n+1+1 from rfl,s1];grind)
  rw [show 2*(n+1)=2*n+1+1 by omega]
  exact ⟨by rw [s1];grind,by rw [show 2*n+1+1=2*n+2 from rfl,s2];grind⟩
theorem tm_sq (x:Rat):∀ n,tmQ x (2*n)=gQ (dSq 0) (x*x) n∧tmQ x (2*n+1)=x*gQ (dSq 1) (x*x) n
 | 0=>by
  refine ⟨rfl,?_⟩
  have h:=tmQ_succ x 0
  have e:((0:Nat):Rat)+1=1:=by
   have:((0:Nat):Rat)=0:=rfl
   rw [this];grind
  rw [e,Rat.one_mul] at h
  exact h
 | n+1=>by
  obtain ⟨h1,h2⟩:=tm_sq x n
  have a1:=tmQ_succ x (2*n)
  have a2:=tmQ_succ x (2*n+1)
  have a3:=tmQ_succ x (2*n+2)
  have b1:=gQ_succ (D:=dSq 0) dv_sq (x*x) n
  have b2:=gQ_succ (D:=dSq 1) dv_sq (x*x) n
  have hn:=natq_nonneg n
  have d1:((dSq 0 (n+1):Nat):Rat)=(2*(n:Rat)+2)*(2*(n:Rat)+1):=by
   have:dSq 0 (n+1)=(2*n+2)*(2*n+1):=by unfold dSq;rw [show 2*(n+1)+0=2*n+2 by omega,show 2*n+2-1=2*n+1 by omega]
   rw [this];push_cast;grind
  have d2:((dSq 1 (n+1):Nat):Rat)=(2*(n:Rat)+3)*(2*(n:Rat)+2):=by
   have:dSq 1 (n+1)=(2*n+3)*(2*n+2):=by unfold dSq;rw [show 2*(n+1)+1=2*n+3 by omega,show 2*n+3-1=2*n+2 by omega]
   rw [this];push_cast;grind
  have c1:((2*n:Nat):Rat)=2*(n:Rat):=by push_cast;rfl
  have c2:((2*n+1:Nat):Rat)=2*(n:Rat)+1:=by push_cast;rfl
  have c3:((2*n+2:Nat):Rat)=2*(n:Rat)+2:=by push_cast;rfl
  rw [c1] at a1
  rw [c2] at a2
  rw [c3] at a3
  rw [d1] at b1
  rw [d2] at b2
  rw [show 2*(n+1)=2*n+2 by omega]
  rw [show 2*n+1+1=2*n+2 from rfl] at a2
  generalize (n:Rat)=q at *
  generalize tmQ x (2*n)=t0 at *
  generalize tmQ x (2*n+1)=t1 at *
  generalize tmQ x (2*n+2)=t2 at *
  generalize tmQ x (2*n+2+1)=t3 at *
  generalize gQ (dSq 0) (x*x) (n+1)=u1 at *
  generalize gQ (dSq 1) (x*x) (n+1)=v1 at *
  generalize gQ (dSq 0) (x*x) n=u0 at *
  generalize gQ (dSq 1) (x*x) n=v0 at *
  have p1:0 < (2*q+2)*(2*q+1):=Rat.mul_pos (by grind) (by grind)
  have p2:0 < (2*q+3)*(2*q+2):=Rat.mul_pos (by grind) (by grind)
  have f1:(2*q+2)*(2*q+1)*t2=(2*q+2)*(2*q+1)*u1:=by
   have:(2*q+2)*(2*q+1)*t2=(2*q+1)*((2*q+1+1)*t2):=by grind
   rw [this,a2,b1]
   have:(2*q+1)*(x*t1)=x*((2*q+1)*t1):=by grind
   rw [this,a1,h1]
   grind
  have f2:(2*q+3)*(2*q+2)*t3=(2*q+3)*(2*q+2)*(x*v1):=by
   have:(2*q+3)*(2*q+2)*t3=(2*q+2)*((2*q+2+1)*t3):=by grind
   rw [this,a3]
   have:(2*q+2)*(x*t2)=x*((2*q+1+1)*t2):=by grind
   rw [this,a2,h2]
   have:(2*q+3)*(2*q+2)*(x*v1)=x*((2*q+3)*(2*q+2)*v1):=by grind
   rw [this,b2]
   grind
  have can:∀ {c a b:Rat},0 < c→c*a=c*b→a=b:=fun {c a b} hc h=>by
   have h1:c*(a-b)=0:=by grind
   rcases Rat.mul_eq_zero.1 h1 with h2 | h2 <;> grind
  exact ⟨can p1 f1,can p2 f2⟩
theorem ch_sums (x:Rat):∀ n,chQ x (2*n)=sumQ (gQ (dSq 0) (x*x)) n∧chQ x (2*n+1)=sumQ (gQ (dSq 0) (x*x)) n
 | 0=>by
  have h1:=(tm_neg x 0).2
  have e0:chQ x (2*0)=1:=by unfold chQ;show ((1:Rat)+1)/2=1;grind
  have e1:chQ x (2*0+1)=1:=by
   unfold chQ
   show ((1+tmQ x (0+1))+(1+tmQ (-x) (0+1)))/2=1
   rw [show tmQ (-x) (0+1)=- tmQ x (0+1) from h1]
   grind
  exact ⟨e0,e1⟩
 | n+1=>by
  obtain ⟨h1,h2⟩:=ch_sums x n
  have t1:=tm_neg x (n+1)
  have t2:=(tm_sq x (n+1)).1
  have s1:chQ x (2*(n+1))=chQ x (2*n+1)+(tmQ x (2*(n+1))+tmQ (-x) (2*(n+1)))/2:=by
   unfold chQ
   rw [show 2*(n+1)=2*n+1+1 by omega]
   show ((exQ x (2*n+1)+tmQ x (2*n+1+1))+(exQ (-x) (2*n+1)+tmQ (-x) (2*n+1+1)))/2=_
   grind
  have s2:chQ x (2*(n+1)+1)=chQ x (2*(n+1))+(tmQ x (2*(n+1)+1)+tmQ (-x) (2*(n+1)+1))/2:=by
   unfold chQ
   show ((exQ x (2*(n+1))+tmQ x (2*(n+1)+1))+(exQ (-x) (2*(n+1))+tmQ (-x) (2*(n+1)+1)))/2=_
   grind
  have s3:chQ x (2*(n+1))=sumQ (gQ (dSq 0) (x*x)) (n+1):=by
   rw [s1,h2,t1.1,sumQ_succ,← t2]
   grind
  exact ⟨s3,by rw [s2,s3,t1.2];grind⟩
theorem sh_sums (x:Rat):∀ n,shQ x (2*n+1)=x*sumQ (gQ (dSq 1) (x*x)) n∧shQ x (2*n+2)=x*sumQ (gQ (dSq 1) (x*x)) n
 | 0=>by
  have h1:=(tm_neg x 0).2
  have h2:=(tm_neg x 1).1
  have h3:=(tm_sq x 0).2
  have e1:shQ x (2*0+1)=x*sumQ (gQ (dSq 1) (x*x)) 0:=by
   unfold shQ
   show ((1+tmQ x (2*0+1))-(1+tmQ (-x) (2*0+1)))/2=x*gQ (dSq 1) (x*x) 0
   rw [h1,← h3]
   grind
  refine ⟨e1,?_⟩
  rw [← e1]
  unfold shQ
  show ((exQ x (2*0+1)+tmQ x (2*1))-(exQ (-x) (2*0+1)+tmQ (-x) (2*1)))/2=_
  rw [h2]
  grind
 | n+1=>by
  obtain ⟨h1,h2⟩:=sh_sums x n
  have t1:=(tm_neg x (n+1)).2
  have t2:=(tm_neg x (n+2)).1
  have t3:=(tm_sq x (n+1)).2
  have s1:shQ x (2*(n+1)+1)=shQ x (2*n+2)+(tmQ x (2*(n+1)+1)-tmQ (-x) (2*(n+1)+1))/2:=by
   unfold shQ
   show ((exQ x (2*n+2)+tmQ x (2*(n+1)+1))-(exQ (-x) (2*n+2)+tmQ (-x) (2*(n+1)+1)))/2=_
   grind
  have s2:shQ x (2*(n+1)+2)=shQ x (2*(n+1)+1)+(tmQ x (2*(n+2))-tmQ (-x) (2*(n+2)))/2:=by
   unfold shQ
   show ((exQ x (2*(n+1)+1)+tmQ x (2*(n+2)))-(exQ (-x) (2*(n+1)+1)+tmQ (-x) (2*(n+2))))/2=_
   grind
  have s3:shQ x (2*(n+1)+1)=x*sumQ (gQ (dSq 1) (x*x)) (n+1):=by
   rw [s1,h2,t1,sumQ_succ,t3]
   grind
  exact ⟨s3,by rw [s2,s3,t2];grind⟩
theorem hl_ch {x a b:Rat} {N:Nat} (h:∀ n,N≤n→a≤sumQ (gQ (dSq 0) (x*x)) n∧sumQ (gQ (dSq 0) (x*x)) n≤b):Hl a b (chQ x) :=
 Hl.of (N:=2*N) fun n hn=>by
  rcases Nat.mod_two_eq_zero_or_one n with h0 | h0
  · have e:n=2*(n/2):=by omega
    rw [e,(ch_sums x (n/2)).1]
    exact h _ (by omega)
  · have e:n=2*(n/2)+1:=by omega
    rw [e,(ch_sums x (n/2)).2]
    exact h _ (by omega)
theorem hl_sh {x a b:Rat} {N:Nat} (h:∀ n,N≤n→a≤x*sumQ (gQ (dSq 1) (x*x)) n∧x*sumQ (gQ (dSq 1) (x*x)) n≤b):Hl a b (shQ x) :=
 Hl.of (N:=2*N+2) fun n hn=>by
  rcases Nat.mod_two_eq_zero_or_one n with h0 | h0
  · have e:n=2*(n/2-1)+2:=by omega
    rw [e,(sh_sums x (n/2-1)).2]
    exact h _ (by omega)
  · have e:n=2*(n/2)+1:=by omega
    rw [e,(sh_sums x (n/2)).1]
    exact h _ (by omega)
theorem squares_holds {z:Rat} {Z B P odd:Nat} (hz:Zb z Z B) (hB:B=P+64) (hBl:B≤200000) :
 B≤nb (fsN (dSq odd) Z B (B+1))∧nb (fsN (dSq odd) Z B (B+1))≤B+2 ∧
 ∀ n,B+1≤n→((fsN (dSq odd) Z B (B+1):Nat):Rat)*tw (-(B:Int))≤sumQ (gQ (dSq odd) z) n ∧
  sumQ (gQ (dSq odd) z) n≤(((fsN (dSq odd) Z B (B+1):Nat):Rat)+((2^(nb (fsN (dSq odd) Z B (B+1))-(P+32)):Nat):Rat))*tw (-(B:Int)):=by
 have hn:ftN (dSq odd) Z B (B+1)=0:=ft_nought hz.two (Nat.lt_succ_self B)
 have hbig:=fs_big (dSq odd) Z B (B+1)
 have hs:=tw_pos (-(B:Int))
 have hp:=p_pos B
 have hi:=tw_inv B
 have hnb1:B+1≤nb (fsN (dSq odd) Z B (B+1)):=by
  have:=nbm7 hbig
  rw [show nb (2^B)=B+1 from nb_of (Nat.pow_lt_pow_right (by omega) (Nat.lt_succ_self _)) (Nat.le_refl _)] at this
  exact this
 have low:=fs_le (dv_sq (odd:=odd)) hz (B+1)
 have hgn:∀ n,0≤gQ (dSq odd) z n:=gQ_nonneg dv_sq hz.z0
 have two:∀ n,sumQ (gQ (dSq odd) z) n≤2:=fun n=>by
  have h1:=gQ_tail (dv_sq (odd:=odd)) hz.z0 hz.z2 0 n
  have e0:sumQ (gQ (dSq odd) z) 0=1:=rfl
  have e1:gQ (dSq odd) z 0=1:=rfl
  rw [e0,e1] at h1
  grind
 have hnb2:nb (fsN (dSq odd) Z B (B+1))≤B+2:=by
  refine (nb_le_iff _ _).2 ?_
  have h1:=Rat.mul_le_mul_of_nonneg_right (two (B+1)) (Rat.le_of_lt hp)
  have h2:((fsN (dSq odd) Z B (B+1):Nat):Rat)≤((2*2^B:Nat):Rat):=by
   rw [Rat.natCast_mul]
   have:((2:Nat):Rat)=2:=rfl
   rw [this]
   exact Rat.le_trans low h1
  have h3:fsN (dSq odd) Z B (B+1)≤2*2^B:=by exact_mod_cast h2
  have h4:=Nat.two_pow_pos B
  rw [Nat.pow_succ,Nat.pow_succ]
  omega
 refine ⟨by omega,hnb2,fun n hn'=>⟨?_,?_⟩⟩
 · have h1:=sumQ_mono hgn hn'
   have h2:=Rat.mul_le_mul_of_nonneg_right low (Rat.le_of_lt hs)
   generalize sumQ (gQ (dSq odd) z) (B+1)=E at *
   generalize ((2^B:Nat):Rat)=p at *
   generalize tw (-(B:Int))=t at *
   have:E*p*t=E:=by
    have:E*p*t=E*(t*p):=by grind
    rw [this,hi,Rat.mul_one]
   grind
 · have h1:=fs_all (dv_sq (odd:=odd)) hz hn n
   have h2:4*(((B+1:Nat):Rat)+2)≤((2^(nb (fsN (dSq odd) Z B (B+1))-(P+32)):Nat):Rat):=by
    have h3:4*(B+3)≤2^20:=by omega
    have h4:2^20≤2^(nb (fsN (dSq odd) Z B (B+1))-(P+32)):=Nat.pow_le_pow_right (by omega) (by omega)
    have h5:=natq_le (Nat.le_trans h3 h4)
    have e:((4*(B+3):Nat):Rat)=4*(((B+1:Nat):Rat)+2):=by push_cast;grind
    rw [e] at h5
    exact h5
   have h6:sumQ (gQ (dSq odd) z) n*((2^B:Nat):Rat)*tw (-(B:Int))≤(((fsN (dSq odd) Z B (B+1):Nat):Rat)+((2^(nb (fsN (dSq odd) Z B (B+1))-(P+32)):Nat):Rat))*tw (-(B:Int)) :=
    Rat.mul_le_mul_of_nonneg_right (by grind) (Rat.le_of_lt hs)
   generalize sumQ (gQ (dSq odd) z) n=E at *
   generalize ((2^B:Nat):Rat)=p at *
   generalize tw (-(B:Int))=t at *
   have:E*p*t=E:=by
    have:E*p*t=E*(t*p):=by grind
    rw [this,hi,Rat.mul_one]
   grind
end Go.Proofs.YtmbmohibpkepdaaGreatDoor
